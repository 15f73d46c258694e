/- What the reference's Join hands back. ·  -/
import Derived.Test.YtkfpainpomobfaaGreatDoorR25
set_option linter.unusedVariables false
set_option linter.unusedSimpArgs false
set_option maxHeartbeats 16000000
set_option maxRecDepth 16000
namespace Go.Proofs.YtkfpainpomobfaaGreatDoor.Wd
open Go.RowKit List World Nat
theorem r_S (p p2:Option Addr) (A nb c c2:Nat) (a b:List Nat) (ha:goodN a) (hb:goodN b) (av:nb<=A) (w:World) (hu:Nums .i64 w (.slice p A c) (itl a)) (hv:Nums .i64 w (.slice p2 nb c2) (itl b)) (ca:Calls Tryz.prog 65 #[.slice p A c] w fun e w'=>e = .returned (.bool true)/\w'=w) (cb:Calls Tryz.prog 65 #[.slice p2 nb c2] w fun e w'=>e = .returned (.bool true)/\w'=w):
  Calls Tryz.prog 94 #[.slice p A c,.slice p2 nb c2] w fun e w'=>∃ v',e = .returned (.tuple #[v',.int .i64 (b_c (itl a) (itl b))])/\OwnK .i64 3 w' w.heap.size v' (b_t (itl a) (itl b))/\Bw w w':=by
 have HA:Hid (Lst w p A (itl a)/\a.length=A):=by
  obtain ⟨p',n',c',e,h⟩:=hu.lst;cases e;exact ⟨h.out,by rw [<- a_p a];exact h.1⟩
 have HB:Hid (Lst w p2 nb (itl b)/\b.length=nb):=by
  obtain ⟨p',n',c',e,h⟩:=hv.lst;cases e;exact ⟨h.out,by rw [<- a_p b];exact h.1⟩
 have ay:A<=4:=by rw [<- HA.2];exact ha.1
 have aB:nb<=4:=by rw [<- HB.2];exact hb.1
 have an:(nb:Int)<=(A:Int):=by omega
 have O:Hid (goodN a/\goodN b/\max a.length b.length=A):=⟨ha,hb,by rw [HA.2,HB.2];omega⟩
 obtain ⟨L,eL⟩:∃ L,itl (joinN a b)=L:=⟨_,rfl⟩
 have I:Hid (itl (joinN a b)=L/\L.length=A):=⟨eL,by rw [<- eL,a_p,a_4];exact O.2.2⟩
 obtain ⟨X,eX⟩:∃ X,b_t (itl a) (itl b)=X:=⟨_,rfl⟩
 obtain ⟨E,eE⟩:∃ E,b_c (itl a) (itl b)=E:=⟨_,rfl⟩
 have HX:Hid (b_t (itl a) (itl b)=X/\b_c (itl a) (itl b)=E):=⟨eX,eE⟩
 rw [eX,eE];clear ha hb eL eX eE hu hv;go_enter Tryz.func94,Tryz.ntmps94;go_wp2_with fail
 refine ca.mono ?_;rintro e H ⟨rfl,rfl⟩;clear ca;go_wp2_with fail
 refine cb.mono ?_;rintro e H ⟨rfl,rfl⟩;clear cb;go_wp2_with (at_make;refine a_F e_g (by decide) _ rfl (.tmp 27) (.tmp 27) rfl .i64 .i64 A A A rfl rfl rfl rfl (by omega) H.heap.size H (Nat.le_refl _) (Below.refl _ _) ?_;intro w1 HO B0 B1;clear B0)
 rw [<- I.2,<- d_w L,I.2] at HO
 go_loopg [8] A (fun gg v wr=>∃ (k:Nat),k<=A/\gg=A - k/\v = .int .i64 ((k:Int)+1)/\Hid (∀ i,1<=i->i<=k->c_0 (a_u a i) (a_u b i))/\Hid (OwnK .i64 3 wr H.heap.size (.slice (some ⟨H.heap.size,0,none⟩) A A) (e_Y L k))/\Hid (Bw H wr))
 case atStart=>exact ⟨0,by omega,by omega,by first|rfl|simp,fun i V h2=>by omega,HO,B1⟩
 case round=>
  obtain ⟨k,hk,hg,rfl,Hx,HR,hB⟩:=hrel;by_cases ax:k < A
  ·have ar:(k:Int)+1<=(A:Int):=by omega
   obtain ⟨j,hj⟩:∃ j,j=A - 1 - k:=⟨_,rfl⟩
   have ab:j < A:=by omega
   have aw:(A:Int) - ((k:Int)+1)=(j:Int):=by omega
   have az:(j:Int) < (A:Int):=by omega
   have Hj:Hid (j+k+1=A):=by show _=_;omega
   clear hj;by_cases aA:k < A
   ·have ao:(k:Int)+1<=(A:Int):=by omega
    obtain ⟨qa,oa,rfl,ca⟩:=(HA.1.up hB.out).2 j (by omega);have sa:=d_y a (k+1) (by omega) (by have:=HA.2;omega);rw [HA.2,show A - (k+1)=j by have:=Hj.out;omega] at sa;have ra:=c_i O.1 (k+1);obtain ⟨x,ea⟩:∃ z:Int,((a_u a (k+1):Nat):Int)=z:=⟨_,rfl⟩
    rw [sa,ea] at ca;have ak:1<=x/\x<=4096:=by omega
    clear sa ra;by_cases aC:k < nb
    ·have ai:(k:Int)+1<=(nb:Int):=by omega
     obtain ⟨jb,ag⟩:∃ jb,jb=nb - (k+1):=⟨_,rfl⟩
     have aq:(nb:Int) - ((k:Int)+1)=(jb:Int):=by omega
     have au:(jb:Int) < (nb:Int):=by omega
     obtain ⟨qb,ob,rfl,cb⟩:=(HB.1.up hB.out).2 jb (by omega);have sb:=d_y b (k+1) (by omega) (by have:=HB.2;omega);rw [HB.2,<- ag] at sb;have rb:=c_i O.2.1 (k+1);obtain ⟨y,eb⟩:∃ z:Int,((a_u b (k+1):Nat):Int)=z:=⟨_,rfl⟩
     rw [sb,eb] at cb;have al:1<=y/\y<=4096:=by omega
     clear sb rb ag;have HS:Hid (((a_u a (k+1):Nat):Int)=x/\((a_u b (k+1):Nat):Int)=y/\1<=x/\1<=y):=⟨ea,eb,ak.1,al.1⟩
     clear ea eb;by_cases ac:x=y
     ·subst ac
      have HZ:Hid (x=L.getD j 0):=by
       show _=_;rw [<- I.1,c_r a b j k (by rw [O.2.2];exact Hj.out)];have:=HS.out;omega
      have Hn:Hid (∀ i,1<=i->i<=k+1->c_0 (a_u a i) (a_u b i)):=fun i V h2=>by
       rcases Nat.lt_or_ge k i with h|h
       ·rw [show i=k+1 by omega];have:=HS.out;unfold c_0;omega
       ·exact Hx.out i V h
      obtain ⟨Z,ad⟩:=HR.cell (by rw [a_I];exact I.2) j ab
      have H2:Hid (OwnK .i64 3 (wr.setCell ⟨H.heap.size,j,none⟩ (.int .i64 (x))) H.heap.size (.slice (some ⟨H.heap.size,0,none⟩) A A) (e_Y L (k+1))):=by
       have:=HR.out.store (by rw [a_I];exact I.2) j (x);rw [HZ.out,b_s L j k (by rw [I.2];exact Hj.out)] at this;rw [HZ.out];exact this
      have M:Hid (Bw H (wr.setCell ⟨H.heap.size,j,none⟩ (.int .i64 (x)))):=hB.setCell (p:=⟨H.heap.size,j,none⟩) (Nat.le_refl _) _;clear Hx;go_wp2;go_roundg (A - (k+1))
      case measure=>omega
      case rel=>exact ⟨k+1,by omega,rfl,by first|rfl|simp,Hn,H2,M⟩
     have aj:(x != y)=true:=by simp [ac]
     by_cases ah:x=1
     ·subst ah;have ae:1 < y:=by omega
      have af:¬ y=1:=by omega
      have HZ:Hid (y=L.getD j 0):=by
       show _=_;rw [<- I.1,c_r a b j k (by rw [O.2.2];exact Hj.out)];have:=HS.out;omega
      have Hn:Hid (∀ i,1<=i->i<=k+1->c_0 (a_u a i) (a_u b i)):=fun i V h2=>by
       rcases Nat.lt_or_ge k i with h|h
       ·rw [show i=k+1 by omega];have:=HS.out;unfold c_0;omega
       ·exact Hx.out i V h
      obtain ⟨Z,ad⟩:=HR.cell (by rw [a_I];exact I.2) j ab
      have H2:Hid (OwnK .i64 3 (wr.setCell ⟨H.heap.size,j,none⟩ (.int .i64 (y))) H.heap.size (.slice (some ⟨H.heap.size,0,none⟩) A A) (e_Y L (k+1))):=by
       have:=HR.out.store (by rw [a_I];exact I.2) j (y);rw [HZ.out,b_s L j k (by rw [I.2];exact Hj.out)] at this;rw [HZ.out];exact this
      have M:Hid (Bw H (wr.setCell ⟨H.heap.size,j,none⟩ (.int .i64 (y)))):=hB.setCell (p:=⟨H.heap.size,j,none⟩) (Nat.le_refl _) _;clear Hx;go_wp2;go_roundg (A - (k+1))
      case measure=>omega
      case rel=>exact ⟨k+1,by omega,rfl,by first|rfl|simp,Hn,H2,M⟩
     have ap:(x != 1)=true:=by simp [ah]
     by_cases ae:y=1
     ·subst ae;have aD:¬ x < 1:=by omega
      have am:1 < x:=by omega
      have HZ:Hid (x=L.getD j 0):=by
       show _=_;rw [<- I.1,c_r a b j k (by rw [O.2.2];exact Hj.out)];have:=HS.out;omega
      have Hn:Hid (∀ i,1<=i->i<=k+1->c_0 (a_u a i) (a_u b i)):=fun i V h2=>by
       rcases Nat.lt_or_ge k i with h|h
       ·rw [show i=k+1 by omega];have:=HS.out;unfold c_0;omega
       ·exact Hx.out i V h
      obtain ⟨Z,ad⟩:=HR.cell (by rw [a_I];exact I.2) j ab
      have H2:Hid (OwnK .i64 3 (wr.setCell ⟨H.heap.size,j,none⟩ (.int .i64 (x))) H.heap.size (.slice (some ⟨H.heap.size,0,none⟩) A A) (e_Y L (k+1))):=by
       have:=HR.out.store (by rw [a_I];exact I.2) j (x);rw [HZ.out,b_s L j k (by rw [I.2];exact Hj.out)] at this;rw [HZ.out];exact this
      have M:Hid (Bw H (wr.setCell ⟨H.heap.size,j,none⟩ (.int .i64 (x)))):=hB.setCell (p:=⟨H.heap.size,j,none⟩) (Nat.le_refl _) _;clear Hx;go_wp2;go_roundg (A - (k+1))
      case measure=>omega
      case rel=>exact ⟨k+1,by omega,rfl,by first|rfl|simp,Hn,H2,M⟩
     have af:(y != 1)=true:=by simp [ae]
     have hX:=e_f O.1 O.2.1 (fun h=>by
      have V:=h (k+1) (by omega) (by rw [O.2.2];omega);have:=HS.out;unfold c_0 at V;omega)
     rw [HX.1,HX.2] at hX;obtain ⟨rfl,rfl⟩:=hX;clear Hx;go_wp2;go_ret2;exact ⟨_,rfl,OwnK.nil _ _ _ _,hB.out⟩
    ·have ai:(nb:Int) < (k:Int)+1:=by omega
     have eb:((a_u b (k+1):Nat):Int)=1:=by rw [c_c b (k+1) (by have:=HB.2;omega)];rfl
     have HS:Hid (((a_u a (k+1):Nat):Int)=x/\((a_u b (k+1):Nat):Int)=1/\1<=x/\(1:Int)<=1):=⟨ea,eb,ak.1,by omega⟩
     clear ea eb;by_cases ac:x=1
     ·subst ac
      have HZ:Hid (1=L.getD j 0):=by
       show _=_;rw [<- I.1,c_r a b j k (by rw [O.2.2];exact Hj.out)];have:=HS.out;omega
      have Hn:Hid (∀ i,1<=i->i<=k+1->c_0 (a_u a i) (a_u b i)):=fun i V h2=>by
       rcases Nat.lt_or_ge k i with h|h
       ·rw [show i=k+1 by omega];have:=HS.out;unfold c_0;omega
       ·exact Hx.out i V h
      obtain ⟨Z,ad⟩:=HR.cell (by rw [a_I];exact I.2) j ab
      have H2:Hid (OwnK .i64 3 (wr.setCell ⟨H.heap.size,j,none⟩ (.int .i64 (1))) H.heap.size (.slice (some ⟨H.heap.size,0,none⟩) A A) (e_Y L (k+1))):=by
       have:=HR.out.store (by rw [a_I];exact I.2) j (1);rw [HZ.out,b_s L j k (by rw [I.2];exact Hj.out)] at this;rw [HZ.out];exact this
      have M:Hid (Bw H (wr.setCell ⟨H.heap.size,j,none⟩ (.int .i64 (1)))):=hB.setCell (p:=⟨H.heap.size,j,none⟩) (Nat.le_refl _) _;clear Hx;go_wp2;go_roundg (A - (k+1))
      case measure=>omega
      case rel=>exact ⟨k+1,by omega,rfl,by first|rfl|simp,Hn,H2,M⟩
     ·have aj:(x != 1)=true:=by simp [ac]
      have am:1 < x:=by omega
      have HZ:Hid (x=L.getD j 0):=by
       show _=_;rw [<- I.1,c_r a b j k (by rw [O.2.2];exact Hj.out)];have:=HS.out;omega
      have Hn:Hid (∀ i,1<=i->i<=k+1->c_0 (a_u a i) (a_u b i)):=fun i V h2=>by
       rcases Nat.lt_or_ge k i with h|h
       ·rw [show i=k+1 by omega];have:=HS.out;unfold c_0;omega
       ·exact Hx.out i V h
      obtain ⟨Z,ad⟩:=HR.cell (by rw [a_I];exact I.2) j ab
      have H2:Hid (OwnK .i64 3 (wr.setCell ⟨H.heap.size,j,none⟩ (.int .i64 (x))) H.heap.size (.slice (some ⟨H.heap.size,0,none⟩) A A) (e_Y L (k+1))):=by
       have:=HR.out.store (by rw [a_I];exact I.2) j (x);rw [HZ.out,b_s L j k (by rw [I.2];exact Hj.out)] at this;rw [HZ.out];exact this
      have M:Hid (Bw H (wr.setCell ⟨H.heap.size,j,none⟩ (.int .i64 (x)))):=hB.setCell (p:=⟨H.heap.size,j,none⟩) (Nat.le_refl _) _;clear Hx;go_wp2;go_roundg (A - (k+1))
      case measure=>omega
      case rel=>exact ⟨k+1,by omega,rfl,by first|rfl|simp,Hn,H2,M⟩
   ·omega
  ·obtain rfl:k=A:=by omega
   have R:=HR.out;rw [<- I.2,d_x,I.2] at R;have HF:Hid (OwnK .i64 3 wr H.heap.size (.slice (some ⟨H.heap.size,0,none⟩) k k) L/\Bw H wr):=⟨R,hB.out⟩
   have J:b_R a b:=fun i V h2=>Hx.out i V (by rw [O.2.2] at h2;exact h2);have cg:=b_g _ L (by rw [<- I.1];exact i_1 O.1 O.2.1) wr R.nums;rw [<- I.1,a_n] at cg;by_cases aa:goodN (joinN a b)
   ·rw [decide_eq_true aa] at cg;have hX:=c_U O.1 O.2.1 J aa;rw [HX.1,HX.2,I.1] at hX;obtain ⟨rfl,rfl⟩:=hX;clear R J aa Hx;go_wp2_with fail
    refine cg.mono ?_;rintro e w5 ⟨rfl,rfl⟩;go_wp2;go_ret2;exact ⟨_,rfl,HF.out⟩
   ·rw [decide_eq_false aa] at cg;have hX:=e_Z O.1 O.2.1 J aa;rw [HX.1,HX.2] at hX;obtain ⟨rfl,rfl⟩:=hX;clear R J aa Hx;go_wp2_with fail
    refine cg.mono ?_;rintro e w5 ⟨rfl,rfl⟩;go_wp2;go_ret2;exact ⟨_,rfl,OwnK.nil _ _ _ _,HF.2⟩
theorem r_T (p p2:Option Addr) (Z A c c2:Nat) (a b:List Nat) (ha:goodN a) (hb:goodN b) (ax:Z < A) (w:World) (hu:Nums .i64 w (.slice p Z c) (itl a)) (hv:Nums .i64 w (.slice p2 A c2) (itl b)) (ca:Calls Tryz.prog 65 #[.slice p Z c] w fun e w'=>e = .returned (.bool true)/\w'=w) (cb:Calls Tryz.prog 65 #[.slice p2 A c2] w fun e w'=>e = .returned (.bool true)/\w'=w):
  Calls Tryz.prog 94 #[.slice p Z c,.slice p2 A c2] w fun e w'=>∃ v',e = .returned (.tuple #[v',.int .i64 (b_c (itl a) (itl b))])/\OwnK .i64 3 w' w.heap.size v' (b_t (itl a) (itl b))/\Bw w w':=by
 have HA:Hid (Lst w p Z (itl a)/\a.length=Z):=by
  obtain ⟨p',n',c',e,h⟩:=hu.lst;cases e;exact ⟨h.out,by rw [<- a_p a];exact h.1⟩
 have HB:Hid (Lst w p2 A (itl b)/\b.length=A):=by
  obtain ⟨p',n',c',e,h⟩:=hv.lst;cases e;exact ⟨h.out,by rw [<- a_p b];exact h.1⟩
 have aA:Z<=4:=by rw [<- HA.2];exact ha.1
 have aE:A<=4:=by rw [<- HB.2];exact hb.1
 have ap:(Z:Int) < (A:Int):=by omega
 have M:Hid (goodN a/\goodN b/\max a.length b.length=A):=⟨ha,hb,by rw [HA.2,HB.2];omega⟩
 obtain ⟨L,eL⟩:∃ L,itl (joinN a b)=L:=⟨_,rfl⟩
 have I:Hid (itl (joinN a b)=L/\L.length=A):=⟨eL,by rw [<- eL,a_p,a_4];exact M.2.2⟩
 obtain ⟨X,eX⟩:∃ X,b_t (itl a) (itl b)=X:=⟨_,rfl⟩
 obtain ⟨E,eE⟩:∃ E,b_c (itl a) (itl b)=E:=⟨_,rfl⟩
 have HX:Hid (b_t (itl a) (itl b)=X/\b_c (itl a) (itl b)=E):=⟨eX,eE⟩
 rw [eX,eE];clear ha hb eL eX eE hu hv;go_enter Tryz.func94,Tryz.ntmps94;go_wp2_with fail
 refine ca.mono ?_;rintro e H ⟨rfl,rfl⟩;clear ca;go_wp2_with fail
 refine cb.mono ?_;rintro e H ⟨rfl,rfl⟩;clear cb;go_wp2_with (at_make;refine a_F e_g (by decide) _ rfl (.tmp 27) (.tmp 27) rfl .i64 .i64 A A A rfl rfl rfl rfl (by omega) H.heap.size H (Nat.le_refl _) (Below.refl _ _) ?_;intro w1 HO B0 B1;clear B0)
 rw [<- I.2,<- d_w L,I.2] at HO
 go_loopg [8] A (fun gg v wr=>∃ (k:Nat),k<=A/\gg=A - k/\v = .int .i64 ((k:Int)+1)/\Hid (∀ i,1<=i->i<=k->c_0 (a_u a i) (a_u b i))/\Hid (OwnK .i64 3 wr H.heap.size (.slice (some ⟨H.heap.size,0,none⟩) A A) (e_Y L k))/\Hid (Bw H wr))
 case atStart=>exact ⟨0,by omega,by omega,by first|rfl|simp,fun i V h2=>by omega,HO,B1⟩
 case round=>
  obtain ⟨k,hk,hg,rfl,Hx,HR,hB⟩:=hrel;by_cases az:k < A
  ·have au:(k:Int)+1<=(A:Int):=by omega
   obtain ⟨j,hj⟩:∃ j,j=A - 1 - k:=⟨_,rfl⟩
   have ac:j < A:=by omega
   have ay:(A:Int) - ((k:Int)+1)=(j:Int):=by omega
   have aB:(j:Int) < (A:Int):=by omega
   have Hj:Hid (j+k+1=A):=by show _=_;omega
   clear hj;by_cases aD:k < Z
   ·have ah:(k:Int)+1<=(Z:Int):=by omega
    obtain ⟨ja,al⟩:∃ ja,ja=Z - (k+1):=⟨_,rfl⟩
    have aw:(Z:Int) - ((k:Int)+1)=(ja:Int):=by omega
    have av:(ja:Int) < (Z:Int):=by omega
    obtain ⟨qa,oa,rfl,ca⟩:=(HA.1.up hB.out).2 ja (by omega);have sa:=d_y a (k+1) (by omega) (by have:=HA.2;omega);rw [HA.2,<- al] at sa;have ra:=c_i M.1 (k+1);obtain ⟨x,ea⟩:∃ z:Int,((a_u a (k+1):Nat):Int)=z:=⟨_,rfl⟩
    rw [sa,ea] at ca;have ao:1<=x/\x<=4096:=by omega
    clear sa ra al;by_cases an:k < A
    ·have ak:(k:Int)+1<=(A:Int):=by omega
     obtain ⟨qb,ob,rfl,cb⟩:=(HB.1.up hB.out).2 j (by omega);have sb:=d_y b (k+1) (by omega) (by have:=HB.2;omega);rw [HB.2,show A - (k+1)=j by have:=Hj.out;omega] at sb;have rb:=c_i M.2.1 (k+1);obtain ⟨y,eb⟩:∃ z:Int,((a_u b (k+1):Nat):Int)=z:=⟨_,rfl⟩
     rw [sb,eb] at cb;have ag:1<=y/\y<=4096:=by omega
     clear sb rb;have HS:Hid (((a_u a (k+1):Nat):Int)=x/\((a_u b (k+1):Nat):Int)=y/\1<=x/\1<=y):=⟨ea,eb,ao.1,ag.1⟩
     clear ea eb;by_cases ae:x=y
     ·subst ae
      have HZ:Hid (x=L.getD j 0):=by
       show _=_;rw [<- I.1,c_r a b j k (by rw [M.2.2];exact Hj.out)];have:=HS.out;omega
      have Hn:Hid (∀ i,1<=i->i<=k+1->c_0 (a_u a i) (a_u b i)):=fun i V h2=>by
       rcases Nat.lt_or_ge k i with h|h
       ·rw [show i=k+1 by omega];have:=HS.out;unfold c_0;omega
       ·exact Hx.out i V h
      obtain ⟨aa,ad⟩:=HR.cell (by rw [a_I];exact I.2) j ac
      have H2:Hid (OwnK .i64 3 (wr.setCell ⟨H.heap.size,j,none⟩ (.int .i64 (x))) H.heap.size (.slice (some ⟨H.heap.size,0,none⟩) A A) (e_Y L (k+1))):=by
       have:=HR.out.store (by rw [a_I];exact I.2) j (x);rw [HZ.out,b_s L j k (by rw [I.2];exact Hj.out)] at this;rw [HZ.out];exact this
      have O:Hid (Bw H (wr.setCell ⟨H.heap.size,j,none⟩ (.int .i64 (x)))):=hB.setCell (p:=⟨H.heap.size,j,none⟩) (Nat.le_refl _) _;clear Hx;go_wp2;go_roundg (A - (k+1))
      case measure=>omega
      case rel=>exact ⟨k+1,by omega,rfl,by first|rfl|simp,Hn,H2,O⟩
     have am:(x != y)=true:=by simp [ae]
     by_cases aj:x=1
     ·subst aj;have af:1 < y:=by omega
      have ai:¬ y=1:=by omega
      have HZ:Hid (y=L.getD j 0):=by
       show _=_;rw [<- I.1,c_r a b j k (by rw [M.2.2];exact Hj.out)];have:=HS.out;omega
      have Hn:Hid (∀ i,1<=i->i<=k+1->c_0 (a_u a i) (a_u b i)):=fun i V h2=>by
       rcases Nat.lt_or_ge k i with h|h
       ·rw [show i=k+1 by omega];have:=HS.out;unfold c_0;omega
       ·exact Hx.out i V h
      obtain ⟨aa,ad⟩:=HR.cell (by rw [a_I];exact I.2) j ac
      have H2:Hid (OwnK .i64 3 (wr.setCell ⟨H.heap.size,j,none⟩ (.int .i64 (y))) H.heap.size (.slice (some ⟨H.heap.size,0,none⟩) A A) (e_Y L (k+1))):=by
       have:=HR.out.store (by rw [a_I];exact I.2) j (y);rw [HZ.out,b_s L j k (by rw [I.2];exact Hj.out)] at this;rw [HZ.out];exact this
      have O:Hid (Bw H (wr.setCell ⟨H.heap.size,j,none⟩ (.int .i64 (y)))):=hB.setCell (p:=⟨H.heap.size,j,none⟩) (Nat.le_refl _) _;clear Hx;go_wp2;go_roundg (A - (k+1))
      case measure=>omega
      case rel=>exact ⟨k+1,by omega,rfl,by first|rfl|simp,Hn,H2,O⟩
     have ar:(x != 1)=true:=by simp [aj]
     by_cases af:y=1
     ·subst af;have aF:¬ x < 1:=by omega
      have aC:1 < x:=by omega
      have HZ:Hid (x=L.getD j 0):=by
       show _=_;rw [<- I.1,c_r a b j k (by rw [M.2.2];exact Hj.out)];have:=HS.out;omega
      have Hn:Hid (∀ i,1<=i->i<=k+1->c_0 (a_u a i) (a_u b i)):=fun i V h2=>by
       rcases Nat.lt_or_ge k i with h|h
       ·rw [show i=k+1 by omega];have:=HS.out;unfold c_0;omega
       ·exact Hx.out i V h
      obtain ⟨aa,ad⟩:=HR.cell (by rw [a_I];exact I.2) j ac
      have H2:Hid (OwnK .i64 3 (wr.setCell ⟨H.heap.size,j,none⟩ (.int .i64 (x))) H.heap.size (.slice (some ⟨H.heap.size,0,none⟩) A A) (e_Y L (k+1))):=by
       have:=HR.out.store (by rw [a_I];exact I.2) j (x);rw [HZ.out,b_s L j k (by rw [I.2];exact Hj.out)] at this;rw [HZ.out];exact this
      have O:Hid (Bw H (wr.setCell ⟨H.heap.size,j,none⟩ (.int .i64 (x)))):=hB.setCell (p:=⟨H.heap.size,j,none⟩) (Nat.le_refl _) _;clear Hx;go_wp2;go_roundg (A - (k+1))
      case measure=>omega
      case rel=>exact ⟨k+1,by omega,rfl,by first|rfl|simp,Hn,H2,O⟩
     have ai:(y != 1)=true:=by simp [af]
     have hX:=e_f M.1 M.2.1 (fun h=>by
      have V:=h (k+1) (by omega) (by rw [M.2.2];omega);have:=HS.out;unfold c_0 at V;omega)
     rw [HX.1,HX.2] at hX;obtain ⟨rfl,rfl⟩:=hX;clear Hx;go_wp2;go_ret2;exact ⟨_,rfl,OwnK.nil _ _ _ _,hB.out⟩
    ·omega
   ·have ah:(Z:Int) < (k:Int)+1:=by omega
    have an:k < A:=by omega
    have ak:(k:Int)+1<=(A:Int):=by omega
    have ea:((a_u a (k+1):Nat):Int)=1:=by rw [c_c a (k+1) (by have:=HA.2;omega)];rfl
    obtain ⟨qb,ob,rfl,cb⟩:=(HB.1.up hB.out).2 j (by omega);have sb:=d_y b (k+1) (by omega) (by have:=HB.2;omega);rw [HB.2,show A - (k+1)=j by have:=Hj.out;omega] at sb;have rb:=c_i M.2.1 (k+1);obtain ⟨y,eb⟩:∃ z:Int,((a_u b (k+1):Nat):Int)=z:=⟨_,rfl⟩
    rw [sb,eb] at cb;have ag:1<=y/\y<=4096:=by omega
    clear sb rb;have HS:Hid (((a_u a (k+1):Nat):Int)=1/\((a_u b (k+1):Nat):Int)=y/\(1:Int)<=1/\1<=y):=⟨ea,eb,by omega,ag.1⟩
    clear ea eb;by_cases ae:y=1
    ·subst ae
     have HZ:Hid (1=L.getD j 0):=by
      show _=_;rw [<- I.1,c_r a b j k (by rw [M.2.2];exact Hj.out)];have:=HS.out;omega
     have Hn:Hid (∀ i,1<=i->i<=k+1->c_0 (a_u a i) (a_u b i)):=fun i V h2=>by
      rcases Nat.lt_or_ge k i with h|h
      ·rw [show i=k+1 by omega];have:=HS.out;unfold c_0;omega
      ·exact Hx.out i V h
     obtain ⟨aa,ad⟩:=HR.cell (by rw [a_I];exact I.2) j ac
     have H2:Hid (OwnK .i64 3 (wr.setCell ⟨H.heap.size,j,none⟩ (.int .i64 (1))) H.heap.size (.slice (some ⟨H.heap.size,0,none⟩) A A) (e_Y L (k+1))):=by
      have:=HR.out.store (by rw [a_I];exact I.2) j (1);rw [HZ.out,b_s L j k (by rw [I.2];exact Hj.out)] at this;rw [HZ.out];exact this
     have O:Hid (Bw H (wr.setCell ⟨H.heap.size,j,none⟩ (.int .i64 (1)))):=hB.setCell (p:=⟨H.heap.size,j,none⟩) (Nat.le_refl _) _;clear Hx;go_wp2;go_roundg (A - (k+1))
     case measure=>omega
     case rel=>exact ⟨k+1,by omega,rfl,by first|rfl|simp,Hn,H2,O⟩
    ·have am:(1 != y)=true:=by simp;omega
     have aq:¬ (1=y):=by omega
     have aG:1 < y:=by omega
     have HZ:Hid (y=L.getD j 0):=by
      show _=_;rw [<- I.1,c_r a b j k (by rw [M.2.2];exact Hj.out)];have:=HS.out;omega
     have Hn:Hid (∀ i,1<=i->i<=k+1->c_0 (a_u a i) (a_u b i)):=fun i V h2=>by
      rcases Nat.lt_or_ge k i with h|h
      ·rw [show i=k+1 by omega];have:=HS.out;unfold c_0;omega
      ·exact Hx.out i V h
     obtain ⟨aa,ad⟩:=HR.cell (by rw [a_I];exact I.2) j ac
     have H2:Hid (OwnK .i64 3 (wr.setCell ⟨H.heap.size,j,none⟩ (.int .i64 (y))) H.heap.size (.slice (some ⟨H.heap.size,0,none⟩) A A) (e_Y L (k+1))):=by
      have:=HR.out.store (by rw [a_I];exact I.2) j (y);rw [HZ.out,b_s L j k (by rw [I.2];exact Hj.out)] at this;rw [HZ.out];exact this
     have O:Hid (Bw H (wr.setCell ⟨H.heap.size,j,none⟩ (.int .i64 (y)))):=hB.setCell (p:=⟨H.heap.size,j,none⟩) (Nat.le_refl _) _;clear Hx;go_wp2;go_roundg (A - (k+1))
     case measure=>omega
     case rel=>exact ⟨k+1,by omega,rfl,by first|rfl|simp,Hn,H2,O⟩
  ·obtain rfl:k=A:=by omega
   have R:=HR.out;rw [<- I.2,d_x,I.2] at R;have HF:Hid (OwnK .i64 3 wr H.heap.size (.slice (some ⟨H.heap.size,0,none⟩) k k) L/\Bw H wr):=⟨R,hB.out⟩
   have J:b_R a b:=fun i V h2=>Hx.out i V (by rw [M.2.2] at h2;exact h2);have cg:=b_g _ L (by rw [<- I.1];exact i_1 M.1 M.2.1) wr R.nums;rw [<- I.1,a_n] at cg;by_cases ab:goodN (joinN a b)
   ·rw [decide_eq_true ab] at cg;have hX:=c_U M.1 M.2.1 J ab;rw [HX.1,HX.2,I.1] at hX;obtain ⟨rfl,rfl⟩:=hX;clear R J ab Hx;go_wp2_with fail
    refine cg.mono ?_;rintro e w5 ⟨rfl,rfl⟩;go_wp2;go_ret2;exact ⟨_,rfl,HF.out⟩
   ·rw [decide_eq_false ab] at cg;have hX:=e_Z M.1 M.2.1 J ab;rw [HX.1,HX.2] at hX;obtain ⟨rfl,rfl⟩:=hX;clear R J ab Hx;go_wp2_with fail
    refine cg.mono ?_;rintro e w5 ⟨rfl,rfl⟩;go_wp2;go_ret2;exact ⟨_,rfl,OwnK.nil _ _ _ _,HF.2⟩
theorem i_I (u v:Value) (a b:List Int) (ha:RI a) (hb:RI b) (w:World) (I:Nums .i64 w u a) (H:Nums .i64 w v b):
  Calls Tryz.prog 94 #[u,v] w fun e w'=>∃ v',e = .returned (.tuple #[v',.int .i64 (b_c a b)])/\OwnK .i64 3 w' w.heap.size v' (b_t a b)/\Bw w w':=by
 have J:=b_g u a ha w I;have R:=b_g v b hb w H;obtain ⟨p,n,c,rfl,HA⟩:=I.lst;obtain ⟨p2,Z,c2,rfl,HB⟩:=H.lst;by_cases A:goodN (ntl a)
 ·rw [decide_eq_true A] at J;by_cases E:goodN (ntl b)
  ·rw [decide_eq_true E] at R;obtain ⟨a,O,rfl⟩:=b_u A;obtain ⟨b,L,rfl⟩:=b_u E;rcases Nat.lt_or_ge n Z with h|h
   ·exact r_T p p2 n Z c c2 a b O L h w I H J R
   ·exact r_S p p2 n Z c c2 a b O L h w I H J R
  ·rw [decide_eq_false E] at R;obtain ⟨M,V⟩:=e_F (a:=a) (b:=b) fun h=>E h.2;rw [M,V];clear M V A E I H;go_enter Tryz.func94,Tryz.ntmps94;go_wp2_with fail
   refine J.mono ?_;rintro e w0 ⟨rfl,rfl⟩;go_wp2_with fail
   refine R.mono ?_;rintro e w0 ⟨rfl,rfl⟩;go_wp2;go_ret2;exact ⟨_,rfl,OwnK.nil _ _ _ _,Below.refl _ _⟩
 ·rw [decide_eq_false A] at J;obtain ⟨M,V⟩:=e_F (a:=a) (b:=b) fun h=>A h.1;rw [M,V];clear M V A I H;go_enter Tryz.func94,Tryz.ntmps94;go_wp2_with fail
  refine J.mono ?_;rintro e w0 ⟨rfl,rfl⟩;go_wp2;go_ret2;exact ⟨_,rfl,OwnK.nil _ _ _ _,Below.refl _ _⟩
theorem n_3 (u v:Value) (d big:List Int) (hd:RI d) (hb:RI big) (a:Int) (w:World) (hu:Nums .i64 w u d) (hv:Nums .i64 w v big):
  Calls Tryz.prog 96 #[u,v,.int .i64 a] w fun e w'=>e = .returned (.tuple #[.int .i64 (g_8 d big a),.bool (f_R d big a)])/\Bw w w':=by
 have cj:=i_I u v d big hd hb w hu hv;have HU:Hid (Nums .i64 w u d):=hu;have HV:Hid (Nums .i64 w v big):=hv;have HR:Hid (RI d/\RI big):=⟨hd,hb⟩
 have hE:=l_O d big;obtain ⟨E,eE⟩:∃ E,b_c d big=E:=⟨_,rfl⟩
 have HE:Hid (b_c d big=E):=eE;rw [eE] at cj hE;obtain ⟨RF,eF⟩:∃ RF,g_8 d big a=RF:=⟨_,rfl⟩
 obtain ⟨RB,eB⟩:∃ RB,f_R d big a=RB:=⟨_,rfl⟩
 have Z:Hid (g_8 d big a=RF/\f_R d big a=RB):=⟨eF,eB⟩
 rw [eF,eB];obtain ⟨p2,m,c2,rfl,HB⟩:=hv.lst;obtain ⟨p,n,c,rfl,HA⟩:=hu.lst;clear hu hv hd hb eE eF eB;go_enter Tryz.func96,Tryz.ntmps96;go_wp2_with fail
 refine cj.mono ?_;rintro e w1 ⟨v1,rfl,ad,ao⟩;have HO:Hid (OwnK .i64 3 w1 w.heap.size v1 (b_t d big)/\Bw w w1):=⟨ad,ao⟩
 clear ad ao cj;by_cases ai:E=0
 ·subst ai;have cs:=e_H v1 (.slice p2 m c2) (b_t d big) big (by have:=l_P d big;omega) w1 HO.1.nums (HV.out.up HO.2);go_wp2_with fail
  refine cs.mono ?_;rintro e w2 ⟨rfl,nn,au⟩;have an:Bw w w2:=by rw [au];exact a_i HO.2 nn
  have M:Hid (Bw w w2):=an;clear cs au an;by_cases A:b_t d big=big
  ·rw [decide_eq_true A];have cp:=g_H (.slice p2 m c2) big HR.2 a w2 (HV.out.up M);by_cases H:0<=a/\a < ((c_E (ntl big):Nat):Int)
   ·rw [decide_eq_true H] at cp;have eP:g_E big a=itl (a_G (ntl big) a.toNat):=if_pos H;rw [eP] at cp;obtain ⟨x,y,a',rfl,rfl,aj,hx,hy,hf,hj,ha,af,ae⟩:=o_q (d:=d) (big:=big) (a:=a) ⟨HE.out,A,H⟩;have L:x.length=n:=by rw [<- a_p x];exact HA.1
    have J:y.length=m:=by rw [<- a_p y];exact HB.1
    have aD:n<=m:=by rw [<- L,<- J];exact d_z hj
    have hn:n<=4:=by rw [<- L];exact hx.1
    have hm:m<=4:=by rw [<- J];exact hy.1
    have HX:Hid (goodN x/\goodN y/\x.length=n/\y.length=m):=⟨hx,hy,L,J⟩
    obtain ⟨Q,eQ⟩:∃ Q,qN x y a'=Q:=⟨_,rfl⟩
    obtain ⟨PL,ac⟩:∃ PL,itl (a_G y a')=PL:=⟨_,rfl⟩
    have HQ:Hid (b_F x Q/\∀ i,i < n->((Q.getD i 0:Nat):Int)=if ((x.getD i 0:Nat):Int)=1 then 0 else PL.getD (m - n+i) 0):=by
     refine ⟨by rw [<- eQ];exact l_R hx hy hf hj a' ha,fun i hi=>?_⟩;rw [<- eQ,<- ac,l_S (d_z hj) a' i (by omega),L,J]
    have ar:Hid (gK x Q n=RF/\RB=true):=by
     refine ⟨?_,?_⟩
     ·rw [<- Z.1,ae,<- eQ];unfold gK;rw [<- L,k_S x y a' (d_z hj)]
     ·rw [<- Z.2,af]
    rw [a_n,aj,Int.toNat_natCast,ac,<- aj] at cp;have ax:Hid (PL.length=m):=by show _=_;rw [<- ac,a_p,b_M];exact J
    clear A eP aj eQ ac hx hy hf hj ha L J af ae HE HO HB Z H;go_wp2_with fail
    refine cp.mono ?_;rintro e w3 ⟨v3,rfl,aa,O⟩;clear cp;obtain ⟨p3,m3,c3,rfl,HP⟩:=aa.nums.lst;have av:PL.length=m3:=HP.1;have V:Bw w w3:=M.trans (O.mono M.size);have ab:Hid (Bw w w3):=V;have aA:(m:Int) - (n:Int)=((m - n:Nat):Int):=by omega
    clear aa O V;obtain rfl:m3=m:=by rw [<- av];exact ax.out
    clear av;go_wp2_with fail
    go_loopg [12,13] n (fun gg f b wr=>∃ (k:Nat) (F:Int),k<=n/\gg=n - k/\f = .int .i64 F/\b = .int .i64 (k:Int)/\Hid (F=gK x Q k)/\wr=w3)
    case atStart=>exact ⟨0,0,by omega,by omega,rfl,by first|rfl|simp,rfl,rfl⟩
    case round=>
     obtain ⟨k,F,hk,hg,rfl,rfl,HK,rfl⟩:=hrel;by_cases ah:k < n
     ·have az:(k:Int) < (n:Int):=by omega
      obtain ⟨q,o,rfl,ca⟩:=(HA.out.up ab).2 k ah;obtain ⟨q3,o3,rfl,cb⟩:=HP.2 (m3 - n+k) (by omega);rw [a_K] at ca;have e1:=HQ.2 k ah;have I:=q_B x Q k;have r0:=HX.1.at k (by rw [HX.2.2.1];exact ah);have r1:=p_Y HX.1 HQ.1 k (by rw [HX.2.2.1];omega);have r2:=p_Y HX.1 HQ.1 (k+1) (by rw [HX.2.2.1];omega);rw [<- HK.out] at I r1;obtain ⟨X,eX⟩:∃ X:Int,((x.getD k 0:Nat):Int)=X:=⟨_,rfl⟩
      obtain ⟨Y,eY⟩:∃ Y:Int,PL.getD (m3 - n+k) 0=Y:=⟨_,rfl⟩
      have hX:1<=X/\X<=4096:=by omega
      rw [eX] at ca e1 I;rw [eY] at cb e1;rw [e1] at I;have aq:((m3 - n:Nat):Int)+(k:Int)=((m3 - n+k:Nat):Int):=by omega
      obtain ⟨jj,ak⟩:∃ jj,m3 - n+k=jj:=⟨_,rfl⟩
      rw [ak] at aq cb;have aC:(jj:Int) < (m3:Int):=by omega
      have am:(0:Int)<=((Q.getD k 0:Nat):Int):=by omega
      rw [e1] at am;have h3:=l_T F X r1.1 (by omega) (by omega) (by omega);obtain ⟨t3,al⟩:∃ t,F*X=t:=⟨_,rfl⟩
      rw [al] at h3 I;by_cases ag:X=1
      ·subst ag;rw [if_pos rfl] at I;have R:Hid (t3+0=gK x Q (k+1)):=I.symm;rw [I] at r2;have aw:Hid (t3=gK x Q (k+1)):=by show _=_;rw [I,Int.add_zero]
       clear eX eY e1 I ak;go_wp2;go_roundg (n - (k+1))
       case measure=>omega
       case rel=>exact ⟨k+1,t3,by omega,rfl,by first|rfl|simp [al],by first|rfl|simp,aw,rfl⟩
      ·rw [if_neg ag] at I am;have ay:(X==1)=false:=by simp [ag]
       obtain ⟨t4,ap⟩:∃ t,t3+Y=t:=⟨_,rfl⟩
       rw [ap] at I;rw [I] at r2;have R:Hid (t4=gK x Q (k+1)):=I.symm;clear eX eY e1 I ak;go_wp2;go_roundg (n - (k+1))
       case measure=>omega
       case rel=>exact ⟨k+1,t4,by omega,rfl,by first|rfl|simp [al,ap],by first|rfl|simp,R,rfl⟩
     ·obtain rfl:k=n:=by omega
      go_wp2;go_ret2;exact ⟨ret_two (HK.trans ar.1) ar.2.symm,ab⟩
   ·rw [decide_eq_false H] at cp;have R:Hid (RB=false/\RF=0):=by have:=i_0 (d:=d) (big:=big) (a:=a) (fun h=>H h.2.2);rw [Z.1,Z.2] at this;exact this
    clear A H;go_wp2_with fail
    refine cp.mono ?_;rintro e w3 ⟨v3,rfl,aa,O⟩;have V:Bw w w3:=M.trans (O.mono M.size);have ab:Hid (Bw w w3):=V;clear aa O V cp;go_wp2;go_ret2;exact ⟨ret_two R.2.symm R.1.symm,ab⟩
  ·rw [decide_eq_false A];have R:Hid (RB=false/\RF=0):=by have:=i_0 (d:=d) (big:=big) (a:=a) (fun h=>A h.2.1);rw [Z.1,Z.2] at this;exact this
   clear A;go_wp2;go_ret2;exact ⟨ret_two R.2.symm R.1.symm,M⟩
 ·have R:Hid (RB=false/\RF=0):=by have:=i_0 (d:=d) (big:=big) (a:=a) (fun h=>ai (by rw [<- HE.out];exact h.1));rw [Z.1,Z.2] at this;exact this
  have aB:(E != 0)=true:=by simp [ai]
  go_wp2;go_ret2;exact ⟨ret_two R.2.symm R.1.symm,HO.2⟩
theorem r_U {x y:List Nat} (I:goodN x) (A:goodN y) (hf:b_R x y) (H:joinN x y=y) (k:Nat) (M:k < a_f y):g_8 (itl x) (itl y) (k:Int)=((c_d x y k:Nat):Int)/\f_R (itl x) (itl y) (k:Int)=true:=by
 have E:goodN (joinN x y):=by rw [H];exact A
 obtain ⟨J,L⟩:=c_U I A hf E
 have hb:f_R (itl x) (itl y) (k:Int)=true:=by
  unfold f_R;refine decide_eq_true ⟨L,by rw [J,H],by omega,?_⟩;rw [a_n,a_T A];omega
 refine ⟨?_,hb⟩;unfold g_8;rw [if_pos hb,a_n,a_n,Int.toNat_natCast]
theorem i_J (o:Int) (f:Int->Int->Int) (K:FuncId) (ho:(o=0/\K=97)∨(o=1/\K=98)∨(o=2/\K=99)) (hz:∀ X Y:Int,Fx.InR X->Fx.InR Y->∀ W,Calls Tryz.prog K #[.int .i64 X,.int .i64 Y] W fun e w'=>e = .returned (.int .i64 (f X Y))/\Bw W w') (p p2 p3 p5:Option Addr) (n c n2 c2 n3 c3 n5 c5:Nat) (d x d' y:List Int) (hd:RI d) (hx:RI x) (aB:RI d') (hy:RI y) (w:World) (h1:Nums .i64 w (.slice p n c) d) (h2:Nums .i64 w (.slice p2 n2 c2) x) (h3:Nums .i64 w (.slice p3 n3 c3) d') (h4:Nums .i64 w (.slice p5 n5 c5) y)
  (a b J:List Nat) (R:Joint d x d' y a b J):
  Calls Tryz.prog 67 #[.int .i64 o,.agg #[.slice p n c,.slice p2 n2 c2],.agg #[.slice p3 n3 c3,.slice p5 n5 c5]] w fun e w'=>∃ v',e = .returned (.tuple #[v',.int .i64 (c_8 d x d' y)])/\TRes w' w.heap.size v' (d_l d x d' y) (d_m (f) d x d' y)/\Bw w w':=by
 have cA:=fun W (hW:Bw w W)=>c_6 _ _ d x hd W (h1.up hW) (h2.up hW);have cB:=fun W (hW:Bw w W)=>c_6 _ _ d' y aB W (h3.up hW) (h4.up hW);have cJ:=fun W (hW:Bw w W)=>i_I _ _ d d' hd aB W (h1.up hW) (h3.up hW);obtain ⟨e1,e2,e3⟩:=R.E (op:=f);rw [e1,e2,e3];have aL:isP d x:=by rw [R.da];unfold isP;rw [a_n];exact ⟨R.ga,R.lx⟩
 have aU:isP d' y:=by rw [R.db];unfold isP;rw [a_n];exact ⟨R.gb,R.ly⟩
 rw [decide_eq_true aL] at cA;rw [decide_eq_true aU] at cB;rw [R.je,R.jn] at cJ;obtain ⟨JL,eJ⟩:∃ JL,itl J=JL:=⟨_,rfl⟩
 obtain ⟨V,eV⟩:∃ V,((range (a_f J)).map fun i=>(f) (x.getD (c_d a J i) 0) (y.getD (c_d b J i) 0))=V:=⟨_,rfl⟩
 obtain ⟨N,eN⟩:∃ N,a_f J=N:=⟨_,rfl⟩
 rw [eJ] at cJ ⊢;rw [eV];have A:Hid (Joint d x d' y a b J/\itl J=JL/\((range (a_f J)).map fun i=>(f) (x.getD (c_d a J i) 0) (y.getD (c_d b J i) 0))=V/\a_f J=N/\V.length=N):=⟨R,eJ,eV,eN,by rw [<- eV,<- eN];simp⟩
 have hN:1<=N/\N<=4096:=by rw [<- eN];exact ⟨R.gJ.pos,R.gJ.2.2⟩
 have a7:1<=(N:Int)/\(N:Int)<=4096:=by omega
 have HR:Hid (RI x/\RI y):=⟨hx,hy⟩
 have H0:Hid (Nums .i64 w (.slice p n c) (itl a)/\Nums .i64 w (.slice p2 n2 c2) x/\Nums .i64 w (.slice p3 n3 c3) (itl b)/\Nums .i64 w (.slice p5 n5 c5) y):=⟨by rw [<- R.da];exact h1,h2,by rw [<- R.db];exact h3,h4⟩
 clear e1 e2 e3 aL aU eJ eV eN h1 h2 h3 h4 hd hx aB hy R;have HO:Hid ((o=0/\K=97)∨(o=1/\K=98)∨(o=2/\K=99)):=ho;have aY:Hid (∀ X Y:Int,Fx.InR X->Fx.InR Y->∀ W,Calls Tryz.prog K #[.int .i64 X,.int .i64 Y] W fun e w'=>e = .returned (.int .i64 (f X Y))/\Bw W w'):=hz;clear ho hz;go_enter Tryz.func67,Tryz.ntmps67;go_wp2_with fail
 generalize aH:alloc _ _=W0;obtain ⟨aw,XA,XB,XR⟩:=s_d aH;clear aH;refine (cA W0 aw).mono ?_;rintro e w1 ⟨rfl,ar⟩;have ah:=b_5 (a_c aw ar) ar;clear ar;obtain ⟨b0,b1,_,_⟩:=XB.out.up ah.2;go_wp2_with fail
 refine (cB w1 ah.1).mono ?_;rintro e w2 ⟨rfl,aq⟩;have ae:=b_5 (a_c ah.1 aq) (a_c ah.2 aq);clear aq b0 b1;obtain ⟨a0,a1,_,_⟩:=XA.out.up ae.2;obtain ⟨b0,b1,_,_⟩:=XB.out.up ae.2;go_wp2_with fail
 refine (cJ w2 ae.1).mono ?_;rintro e w3 ⟨vj,rfl,aS,au⟩;have ag:=b_5 (a_c ae.1 au) (a_c ae.2 au);have aA:Hid (OwnK .i64 3 w3 w2.heap.size vj JL):=aS;clear au aS a0 a1 b0 b1;clear cA cB cJ;have cN:=e_P vj JL (by rw [<- A.2.1];exact e_I A.1.gJ.le) (by rw [<- A.2.1,a_n];exact A.1.gJ) 0 w3 aA.out.nums;rw [<- A.2.1,a_n,A.2.2.2.1,A.2.1] at cN;go_wp2_with fail
 refine cN.mono ?_;rintro e w4 ⟨v4,rfl,⟨s4,g,cg,rfl,av,aG,ao,ak⟩,an⟩;obtain ⟨p4,n4,c4,rfl,_⟩:=av.nums.lst;have aP:Hid (Off g (.slice p4 n4 c4)):=ao;go_wp2_with fail
 generalize aD:alloc _ _=W5;obtain ⟨b5,aF⟩:∃ b5,w4.heap.size=b5:=⟨_,rfl⟩
 have B5:Bw w4 W5:=by rw [<- aD];exact a_a w4 _
 have XT:Hid (Cel W5 b5 (.slice p4 n4 c4) (.slice (some ⟨g,0,none⟩) N cg)):=by
  show Cel _ _ _ _;unfold Cel;rw [<- aD,<- aF];simp [go_sem]
 have am:Hid (Bw w W5/\Bw W0 W5):=⟨a_c ag.1 (a_c an B5),a_c ag.2 (a_c an B5)⟩
 have a2:Hid (OwnK .i64 3 W5 w3.heap.size (.slice p4 n4 c4) JL):=av.up B5;have af:Hid (Cel W5 w.heap.size (.slice p n c) (.slice p2 n2 c2)/\Cel W5 (w.heap.size+1) (.slice p3 n3 c3) (.slice p5 n5 c5)/\Cel W5 (w.heap.size+2) (.slice none 0 0) (.slice none 0 0)):=⟨XA.out.up am.2,XB.out.up am.2,XR.out.up am.2⟩
 have aZ:Hid (OwnK .i64 48 W5 g (.slice (some ⟨g,0,none⟩) N cg) (b_l V 0)):=by
  show OwnK _ _ _ _ _ _;rw [a_W,A.2.2.2.2];exact (aG.up B5).base
 have hz:=a_b XR.1;have aW:=aG.size;have Hg:Hid (W0.heap.size<=g/\w.heap.size+2 < W0.heap.size/\g < b5/\w3.heap.size<=g/\W0.heap.size<=w3.heap.size):=⟨Nat.le_trans ag.2.size ak,hz,by omega,ak,ag.2.size⟩
 rw [aF];have aN:Hid (OwnK .i64 3 W5 w2.heap.size vj JL/\Off g vj):=⟨aA.out.up (a_c an B5),aA.out.off_new ak⟩
 have aR:∀ W (k:Nat) (u:Value) (e:List Nat),Nums .i64 W u (itl e)->Nums .i64 W vj (itl J)->goodN e->b_R e J->joinN e J=J->k < N->Calls Tryz.prog 96 #[u,vj,.int .i64 (k:Int)] W fun e' w'=>e' = .returned (.tuple #[.int .i64 ((c_d e J k:Nat):Int),.bool true])/\Bw W w':=fun W k u e hu hv ge fe je hk=>by
  have:=n_3 _ _ (itl e) (itl J) (e_I ge.le) (e_I A.1.gJ.le) (k:Int) W hu hv;obtain ⟨f1,f2⟩:=r_U ge A.1.gJ fe je k (by rw [A.2.2.2.1];exact hk);rw [f1,f2] at this;exact this
 have aI:Hid (∀ W (k:Nat) (u:Value) (e:List Nat),Nums .i64 W u (itl e)->Nums .i64 W vj (itl J)->goodN e->b_R e J->joinN e J=J->k < N->Calls Tryz.prog 96 #[u,vj,.int .i64 (k:Int)] W fun e' w'=>e' = .returned (.tuple #[.int .i64 ((c_d e J k:Nat):Int),.bool true])/\Bw W w'):=aR;clear aD B5 aF hz aW av aG an ak ao cN aR
 go_loopg [11] N (fun gg i wr=>∃ (k:Nat),k<=N/\gg=N - k/\i = .int .i64 (k:Int)/\Hid (OwnK .i64 48 wr g (.slice (some ⟨g,0,none⟩) N cg) (b_l V k))/\Hid (Bw w wr/\Stay g W5 wr))
 case atStart=>exact ⟨0,by omega,by omega,by first|rfl|simp,aZ,am.1,Stay.refl _ _⟩
 case round=>
  obtain ⟨k,hk,bc,rfl,aQ,L⟩:=hrel;obtain ⟨R1,a3⟩:∃ R1:World,R1=wr:=⟨_,rfl⟩
  subst a3;have al:b5≠g:=by have:=Hg.out;omega
  obtain ⟨t0,t1,_,_⟩:=XT.out.stay L.2 al;by_cases aa:k < N
  ·have a8:(k:Int) < (N:Int):=by omega
   have ac:w.heap.size≠g:=by have:=Hg.out;omega
   have I:w.heap.size+1≠g:=by have:=Hg.out;omega
   have ai:k < a_f J:=by rw [A.2.2.2.1];exact aa
   have ia:=f_x A.1.ga.2.1 A.1.gJ.2.1 A.1.fa A.1.ja k ai;have ib:=f_x A.1.gb.2.1 A.1.gJ.2.1 A.1.fb A.1.jb k ai;have aC:∀ W,Stay g W5 W->Nums .i64 W vj (itl J):=fun W hW=>by rw [A.2.1];exact aN.1.nums.stay hW aN.2
   have aX:Hid (∀ W,Stay g W5 W->Nums .i64 W vj (itl J)):=aC;have c1:=aI.out R1 k (.slice p n c) a (H0.1.up L.1) (aC R1 L.2) A.1.ga A.1.fa A.1.ja aa;have aE:∀ W,Bw w W->Stay g W5 W->Calls Tryz.prog 96 #[.slice p3 n3 c3,vj,.int .i64 (k:Int)] W fun e' w'=>e' = .returned (.tuple #[.int .i64 ((c_d b J k:Nat):Int),.bool true])/\Bw W w':=fun W h1 h2=>aI.out W k _ b (H0.2.2.1.up h1) (aX.out W h2) A.1.gb A.1.fb A.1.jb aa;obtain ⟨i,ei⟩:∃ i,c_d a J k=i:=⟨_,rfl⟩
   obtain ⟨j,ej⟩:∃ j,c_d b J k=j:=⟨_,rfl⟩
   rw [ei] at c1 ia;rw [ej] at aE ib;obtain ⟨_,_,_,e4,HX⟩:=H0.2.1.lst;cases e4;obtain ⟨_,_,_,e4,HY⟩:=H0.2.2.2.lst;cases e4;rw [<- A.1.lx,HX.1] at ia;rw [<- A.1.ly,HY.1] at ib;have bb:(i:Int) < (n2:Int):=by omega
   have ba:(j:Int) < (n5:Int):=by omega
   obtain ⟨qx,ox,rfl,az⟩:=HX.2 i ia;obtain ⟨qy,oy,rfl,ax⟩:=HY.2 j ib;have rx:=HR.1.in i (by rw [HX.1];exact ia);have ry:=HR.2.in j (by rw [HY.1];exact ib);obtain ⟨X,eX⟩:∃ X,x.getD i 0=X:=⟨_,rfl⟩
   obtain ⟨Y,eY⟩:∃ Y,y.getD j 0=Y:=⟨_,rfl⟩
   rw [eX] at az rx;rw [eY] at ax ry;obtain ⟨Z,eZ⟩:∃ Z,(f) X Y=Z:=⟨_,rfl⟩
   have HZ:Hid (V.getD k 0=Z):=by
    show _=_;rw [<- A.2.2.1,a_J _ _ _ _ ai,ei,ej,eX,eY];exact eZ
   have cz:=aY.out X Y rx ry;rw [eZ] at cz;have aM:Hid (w.cell? ⟨qx,ox+i,none⟩=some (.int .i64 X)/\w.cell? ⟨qy,oy+j,none⟩=some (.int .i64 Y)):=⟨az,ax⟩
   obtain ⟨a0,a1,_,_⟩:=af.1.stay L.2 ac;clear eX eY eZ ei ej HX HY ia ib ai az ax aC rx ry;go_wp2_with fail
   refine c1.mono ?_;rintro e R2 ⟨rfl,M⟩;have O:Hid (Bw w R2/\Stay g W5 R2):=⟨a_c L.1 M,L.2.up M⟩
   have aT:Hid (OwnK .i64 48 R2 g (.slice (some ⟨g,0,none⟩) N cg) (b_l V k)):=aQ.out.up M;have c2:=aE R2 O.1 O.2;clear c1 aE M a0 a1 t0 t1;obtain ⟨b0,b1,_,_⟩:=af.2.1.stay O.2 I;go_wp2_with fail
   refine c2.mono ?_;rintro e R3 ⟨rfl,M⟩;have H:Hid (Bw w R3/\Stay g W5 R3):=⟨a_c O.1 M,O.2.up M⟩
   have ap:Hid (OwnK .i64 48 R3 g (.slice (some ⟨g,0,none⟩) N cg) (b_l V k)):=aT.out.up M;clear c2 M b0 b1;obtain ⟨a0,a1,_,_⟩:=af.1.stay H.2 ac;obtain ⟨b0,b1,_,_⟩:=af.2.1.stay H.2 I;obtain ⟨t0,t1,_,_⟩:=XT.out.stay H.2 al;have a4:=a_d aM.1 H.1;have a5:=a_d aM.2 H.1;have z0:=a_b a0;have z1:=a_b b0;have z2:=a_b t0;have z3:=a_b a4;have z4:=a_b a5;have z5:=ap.size;have Hk:Hid (k < V.length):=by show _ < _;rw [A.2.2.2.2];exact aa
   clear ac I al;rcases HO.out with ⟨rfl,rfl⟩|⟨rfl,rfl⟩|⟨rfl,rfl⟩
   all_goals
    go_wp2_with fail
    apply e_K 15 113 (by kernel_rfl) rfl rfl (by kernel_rfl)
    ·intro F hF hFc hFf;simp only [take_succ_cons,take_zero]
     repeat (go_big_quiet_step (exact hF.call (cz _)))
     refine wpQuiet_nil ?_;exact rfl
    ·intro W1 aj;simp only [drop_succ_cons,drop_zero];have ay:=ap.out.up aj;obtain ⟨a6,a9⟩:=ay.cell (by rw [a_y];exact A.2.2.2.2) k aa
     have H5:Hid (OwnK .i64 48 (W1.setCell ⟨g,k,none⟩ (.int .i64 Z)) g (.slice (some ⟨g,0,none⟩) N cg) (b_l V (k+1))):=by
      have:=ay.store (by rw [a_y];exact A.2.2.2.2) k Z;have e2:=a_9 V k Hk.out;rw [HZ.out] at e2;rw [e2] at this;exact this
     have aO:w.heap.size<=g:=by have:=Hg.out;omega
     have H6:Hid (Bw w (W1.setCell ⟨g,k,none⟩ (.int .i64 Z))/\Stay g W5 (W1.setCell ⟨g,k,none⟩ (.int .i64 Z))):=⟨(a_c H.1 aj).setCell (p:=⟨g,k,none⟩) aO _,(H.2.up aj).set _ _⟩
     clear ay aj cz z0 z1 z2 z3 z4 z5 a0 a1 b0 b1 t0 t1 aO;go_wp2;go_roundg (N - (k+1))
     case measure=>omega
     case rel=>exact ⟨k+1,by omega,rfl,by first|rfl|simp,H5,H6⟩
  ·obtain rfl:k=N:=by omega
   have ab:=aQ.out;rw [<- A.2.2.2.2,a_0,A.2.2.2.2] at ab;have aV:Hid (Cel W5 (w.heap.size+2) (.slice none 0 0) (.slice none 0 0)):=af.2.2;have I:w.heap.size+2≠g:=by have:=Hg.out;omega
   have aJ:=a2.out.stay L.2 (fun ad n1 c1 e1=>aP.out ad n1 c1 e1)
   have HF:Hid (TRes (set2 R1 (w.heap.size+2) (.slice p4 n4 c4) (.slice (some ⟨g,0,none⟩) k cg)) w.heap.size (.agg #[.slice p4 n4 c4,.slice (some ⟨g,0,none⟩) k cg]) JL V/\Bw w (set2 R1 (w.heap.size+2) (.slice p4 n4 c4) (.slice (some ⟨g,0,none⟩) k cg))):=
    ⟨(TRes.set (aJ.low Hg.2.2.2.2) (ab.low Hg.1) Hg.2.1).low aw.size,a_q L.1 _ (by omega) _ _⟩
   have xr:=aV.out.stay L.2 I;have cf:=xr.set (.slice p4 n4 c4) (.slice (some ⟨g,0,none⟩) k cg);obtain ⟨r0,r1,r2,r3⟩:=xr;obtain ⟨y0,y1,_,_⟩:=cf;clear ab aJ I al;go_wp2;exact bodyPost_ret (v:=.tuple #[.agg #[.slice p4 n4 c4,.slice (some ⟨g,0,none⟩) k cg],.int .i64 0]) (by simp [results,Tryz.results67,go_sem,y0,y1]) rfl ⟨_,rfl,HF.out⟩
end Go.Proofs.YtkfpainpomobfaaGreatDoor.Wd
