/- What grad's calls and rows are told as, in regions whose order is drawn. · Examples cut in two; what Sum tells, in regions whose order is drawn. · A row of examples in the making: its own cells, the rows that came in. · GradTurns: the examples in another order: the same sum. · GradTurns' walk. · The listed tables, as the walks ask for them: the kinds of layers, the powers of ten. -/
import Derived.Test.YtjlofobnmjompaaGreatDoorT36
import Derived.Test.YtjlofobnmjompaaGreatDoorT40
import Derived.BigQuiet
import Derived.Test.YtjlofobnmjompaaGreatDoorT25
import Derived.Test.YtjlofobnmjompaaGreatDoorRows
import Derived.Test.YtjlofobnmjompaaGreatDoorT23
import Derived.Lib.LaidTab
set_option linter.unusedVariables false
set_option linter.unusedSimpArgs false
set_option maxHeartbeats 16000000
set_option maxRecDepth 16000
namespace Go.Proofs.YtjlofobnmjompaaGreatDoor.Wd
open Go.RowKit Fx
theorem o_V {f:Exm->Int×List Int×Int} {n:Nat} {l:List Exm} (h:(i_h f n l).1=0):(i_h f n l).2.1.length=n:=by
 rw [i_2 (k_i h)];exact k_g f n l
theorem exT:GT Tryz.prog 38 26 3 56:=⟨Tryz.underlying38,by kernel_rfl⟩
/-- The three cells of an example, its rows as they lie in w. -/
def ExC (w:World) (xs:List Value) (i:Nat) (e:Exm):Prop:=∃ p n c p2 n2 c2,xs[i*3]?=some (.slice p n c)/\xs[i*3+1]?=some (.slice p2 n2 c2)/\xs[i*3+2]?=some (.int .i64 e.2.2)/\InR e.2.2/\RowI w p n c e.1/\RowI w p2 n2 c2 e.2.1
def ExO (w:World) (B:Nat) (l:List Exm) (v:Value) (W:World):Prop:=∃ xs,W.ownsRow B 26 3 v l.length xs/\∀ i,i < l.length->ExC w xs i (exA l i)
theorem ExO.nil (w W:World) (B:Nat):ExO w B [] (.slice none 0 0) W:=⟨[],⟨rfl,.inl ⟨rfl,rfl⟩⟩,fun i D=>by simp at D⟩
theorem ExO.up {w:World} {B:Nat} {l:List Exm} {v:Value} {W W':World} (h:ExO w B l v W) (D:Below W.heap.size W W'):ExO w B l v W':=by
 obtain ⟨xs,a,b⟩:=h;exact ⟨xs,a_A (S:=[]) a (Only.of D) (by simp),b⟩
theorem ExC.app {w:World} {xs D:List Value} {i:Nat} {e:Exm} (h:ExC w xs i e):ExC w (xs++D) i e:=by
 obtain ⟨p,n,c,H,J,I,a,b,d,r⟩:=h
 have g:∀ {j:Nat} {u:Value},xs[j]?=some u->(xs++D)[j]?=some u:=fun {j u} hj=>by
  rw [List.getElem?_append_left (List.getElem?_eq_some_iff.1 hj).1];exact hj
 exact ⟨p,n,c,H,J,I,g a,g b,g d,r⟩
theorem o_W (l:List Exm) (e:Exm):exA (l++[e]) l.length=e:=by
 unfold exA;rw [List.getD_eq_getElem?_getD,List.getElem?_append_right (Nat.le_refl _)];simp
theorem ExO.push {w:World} {B:Nat} {l:List Exm} {xs:List Value} (V:∀ i,i < l.length->ExC w xs i (exA l i)) (J:xs.length=l.length*3) {W':World} {L:Value} {p:Option Addr} {n c:Nat} {D:Option Addr} {I H:Nat} {X y:List Int} {cl:Int} (h:W'.ownsRow B 26 3 L (l.length+1) (xs++[.slice p n c,.slice D I H,.int .i64 cl])) (U:InR cl) (O:RowI w p n c X) (R:RowI w D I H y):ExO w B (l++[(X,y,cl)]) L W':=by
 refine ⟨_,by rw [List.length_append];exact h,fun i M=>?_⟩;rw [List.length_append] at M;simp only [List.length_cons,List.length_nil] at M;by_cases e:i < l.length
 ·rw [q_W e];exact (V i e).app
 ·obtain rfl:i=l.length:=by omega
  rw [o_W];refine ⟨p,n,c,D,I,H,?_,?_,?_,U,O,R⟩
  ·rw [List.getElem?_append_right (by omega),J,Nat.sub_self];rfl
  ·rw [List.getElem?_append_right (by omega),J,show l.length*3+1 - l.length*3=1 by omega];rfl
  ·rw [List.getElem?_append_right (by omega),J,show l.length*3+2 - l.length*3=2 by omega];rfl
theorem ExO.exr {w:World} {B:Nat} {l:List Exm} {v:Value} {W:World} (h:ExO w B l v W) (H:Below w.heap.size w W):∃ p n c,v = .slice p n c/\n=l.length/\ExR W p n l:=by
 obtain ⟨xs,a,b⟩:=h;rcases a.2 with ⟨e,J⟩|⟨g,R,U,e,_,_,_⟩
 ·exact ⟨none,0,0,e,J.symm,J,fun i I=>by omega⟩
 ·refine ⟨_,_,_,e,rfl,rfl,fun i I=>⟨g,0,rfl,?_⟩⟩
  have D:∀ {j:Nat} {u:Value},xs[j]?=some u->W.cell? ⟨g,0+j,none⟩=some u:=fun {j u} hj=>by
   have:=World.ownsRow.cells a (g:=g) (by rw [e];rfl) j u hj;rw [a_u] at this;exact this
  obtain ⟨p,n,c,V,n2,O,x,y,z,r,M,L⟩:=b i I;exact ⟨p,n,c,V,n2,O,D x,by rw [Nat.add_assoc];exact D y,by rw [Nat.add_assoc];exact D z,r,M.up H,L.up H⟩
theorem j_b {f:Exm->Int×List Int×Int} {n:Nat} {l:List Exm} (h:(i_h f n l).1≠0):(i_h f n l).2.1 = []/\(i_h f n l).2.2=0:=by
 have:∀ i,(smK f n l i).1≠0->(smK f n l i).2.1 = []/\(smK f n l i).2.2=0:=fun i=>by
  induction i with
  | zero=>exact fun h=>absurd rfl h
  | succ i ih=>
   rw [smK]
   split
   ·split
    ·exact fun h=>absurd rfl h
    ·exact fun _=>⟨rfl,rfl⟩
   ·exact ih
 exact this _ h
theorem o_X {f:Exm->Int×List Int×Int} {n:Nat} {l:List Exm}:(i_h f n l).2.1.length<=n:=by
 by_cases h:(i_h f n l).1=0
 ·rw [o_V h];exact Nat.le_refl _
 ·rw [(j_b h).1];exact Nat.zero_le _
theorem n_g (hS:∀ d ls P,r_b d ls P) (hO:OfC [1] liL [0,0]) (w:World) (hT:Hid (Tz w)) (hK:Hid (Kz w)) (z:Nat->Int) (n c:Nat) (p:Option Addr) (ls:List Ly) (n2 c2:Nat) (p2:Option Addr) (k:Int) (zp:Nat->Int) (np cp:Nat) (pp:Option Addr) (l:List Exm) (H cl:Nat) (pl:Option Addr) (h1:RowN .i64 w p n c z) (h2:LayN w p2 n2 c2 ls) (h3:RowN .i64 w pp np cp zp) (h4:ExsN w pl H cl l):
  Calls Tryz.prog 7 #[.agg #[.slice p n c,.slice p2 n2 c2],.int .i64 k,.slice pp np cp,.slice pl H cl] w fun e w'=>e = .returned (.bool true)/\Below w.heap.size w w':=by
 haveI:Nonempty World:=⟨w⟩
 obtain ⟨d,hd⟩:∃ d:List Int,Nums .i64 w (.slice p n c) d:=⟨k_8 n z,h1.nums⟩
 obtain ⟨P,hP⟩:∃ P:List Int,RowI w pp np cp P:=⟨_,h3.rowI⟩
 have HN:Hid (Nums .i64 w (.slice p n c) d/\LyR 0 w p2 n2 ls/\RowI w pp np cp P/\ExR w pl H l):=⟨hd,h2.2.2,hP,h4.2.2⟩
 have CS:Hid (∀ d ls P,r_b d ls P):=hS;clear h1 h2 h3 h4 hd hP hS;go_enter Tryz.func7,Tryz.ntmps7;go_wp2_with fail
 generalize ap:World.alloc _ _=W0;have ah:Hid (Below w.heap.size w W0):=by rw [<- ap];exact a_b w _
 obtain ⟨g0,g1⟩:W0.cell? ⟨w.heap.size,0,none⟩=some (.slice p n c)/\W0.cell? ⟨w.heap.size,1,none⟩=some (.slice p2 n2 c2):=by rw [<- ap];simp [go_sem]
 clear ap;refine (i_7 (CS.out _ _ _) hO W0 (Hid.up_tz hT ah.out) (Hid.up_kz hK ah.out)).mono ?_;rintro e w1 ⟨rfl,U⟩;have ak:Hid (Below w.heap.size w w1):=a_c ah.out U;replace g0:=a_h U g0;replace g1:=a_h U g1;have kg:=a_f g0;clear U ah hO;go_wp2_with fail
 refine (o_N p p2 n c n2 c2 d ls w1 (HN.out.1.up ak.out) (HN.out.2.1.up ak.out)).mono ?_;rintro e I ⟨rfl,U⟩;have ac:Hid (Below w.heap.size w I):=a_c ak.out U;replace g0:=a_h U g0;replace g1:=a_h U g1;replace kg:=a_f g0;clear U ak;obtain ⟨M,eM⟩:∃ M,tmN n n2 d ls=M:=⟨_,rfl⟩
 by_cases tm:tmP n n2 d ls
 case neg=>
  rw [decide_eq_false tm,eM];go_wp2;go_ret;exact ⟨rfl,ac.out⟩
 have HM:Hid (nP d ls=M/\nE d ls=0/\M<=80/\n2<=6):=by
  have e:nP d ls=M:=by
   rw [<- eM];exact (if_neg (by have:=tm.1;have:=tm.2.1;omega)).symm
  exact ⟨e,tm.2.2.1,by rw [<- e];exact tm.2.2.2,tm.2.1⟩
 rw [decide_eq_true tm,eM];clear tm eM;by_cases a1:5 < H
 ·have:(5:Int) < (H:Int):=by omega
  go_wp2;go_ret;exact ⟨rfl,ac.out⟩
 have aS:(H:Int)<=5:=by omega
 by_cases a2:100 < np
 ·have:(100:Int) < (np:Int):=by omega
  go_wp2;go_ret;exact ⟨rfl,ac.out⟩
 have aV:(np:Int)<=100:=by omega
 have HX:Hid (I.cell? ⟨w.heap.size,0,none⟩=some (.slice p n c)/\I.cell? ⟨w.heap.size,1,none⟩=some (.slice p2 n2 c2)):=⟨g0,g1⟩
 clear g0 g1 kg;go_wp2_with fail
 go_loopg [11,12] H (fun gg mv i wr=>∃ (j:Nat),j<=H/\gg=H - j/\i = .int .i64 ((H:Int) - (j:Int) - 1)/\Hid (ExO w I.heap.size ((l.drop (H - j)).reverse) mv wr)/\Hid (Below I.heap.size I wr))
 case atStart=>exact ⟨0,by omega,by omega,by first|rfl|simp,by
  rw [Nat.sub_zero,List.drop_of_length_le (by rw [HN.out.2.2.2.1];exact Nat.le_refl _)];exact ExO.nil _ _ _,Below.refl _ _⟩
 case round=>
  obtain ⟨j,hj,hg,rfl,HV,HB⟩:=hrel;by_cases aQ:j < H
  ·obtain ⟨i,ei⟩:∃ i:Nat,(H:Int) - (j:Int) - 1=(i:Int):=⟨H - j - 1,by omega⟩
   rw [ei];have hi:i < H:=by omega
   have aR:(i:Int) < (H:Int):=by omega
   have aU:(0:Int)<=(i:Int):=by omega
   obtain ⟨⟨X,y,J⟩,eX⟩:∃ e,exA l i=e:=⟨_,rfl⟩
   have am:=a_c ac.out HB.out;obtain ⟨q,o,rfl,px,nx,cx,py,ny,cy,c0,c1,V,aq,rx,ry⟩:=HN.out.2.2.2.2 i hi;rw [eX] at V aq rx ry
   have HR:Hid (InR J/\RowI w px nx cx X/\RowI w py ny cy y/\(l.drop (H - (j+1))).reverse=(l.drop (H - j)).reverse++[(X,y,J)]):=⟨aq,rx,ry,by
    have h5:H - (j+1)=i:=by omega
    have h6:H - j=i+1:=by omega
    have h7:i < l.length:=by rw [HN.out.2.2.2.1];exact hi
    rw [h5,h6,List.drop_eq_getElem_cons h7,List.reverse_cons]
    congr 2
    rw [<- eX];unfold exA;rw [List.getD_eq_getElem?_getD,List.getElem?_eq_getElem h7];rfl⟩
   replace c0:=a_d c0 am;replace c1:=a_d c1 am;replace V:=a_d V am;dsimp only at V;have kq:=a_a c0;clear aq rx ry eX am;go_wp2_with fail
   refine (m_6 px py nx cx ny cy _ wr).mono ?_;rintro e w3 ⟨rfl,U⟩;obtain ⟨r,er⟩:∃ r:Bool,decide (nx<=60/\ny<=60)=r:=⟨_,rfl⟩
   rw [er];replace c0:=a_h U c0;replace c1:=a_h U c1;replace V:=a_h U V;replace kq:=a_a c0;have H3:Hid (ExO w I.heap.size ((l.drop (H - j)).reverse) u11 w3/\Below I.heap.size I w3):=⟨HV.out.up U,a_c HB.out U⟩
   clear er U HV HB;cases r with
   | false=>
    go_wp2;go_ret;exact ⟨rfl,a_c ac.out H3.out.2⟩
   | true=>
    obtain ⟨xs,R,av⟩:=H3.out.1;obtain ⟨L,eL⟩:∃ L,(l.drop (H - j)).reverse=L:=⟨_,rfl⟩
    rw [eL] at R av;have ai:L.length=j:=by rw [<- eL,List.length_reverse,List.length_drop,HN.out.2.2.2.1];omega
    rw [ai] at R;have H5:Hid ((w3.alloc (.cells #[.slice px nx cx,.slice py ny cy,.int .i64 J] 26)).ownsRow I.heap.size 26 3 u11 j xs):=a_A (S:=[]) R (Only.of (a_b w3 _)) (by simp);have H6:Hid ((w3.alloc (.cells #[.slice px nx cx,.slice py ny cy,.int .i64 J] 26)).heap[w3.heap.size]?=some (.cells [.slice px nx cx,.slice py ny cy,.int .i64 J].toArray 26 (0,0))):=Array.getElem?_push_size;have H7:Hid (∀ y_∈[Value.slice px nx cx,.slice py ny cy,.int .i64 J],y_.oneCell'=true):=fun y hy=>by simp at hy;rcases hy with rfl|rfl|rfl <;> rfl
    have H8:Hid (I.heap.size<=(w3.alloc (.cells #[.slice px nx cx,.slice py ny cy,.int .i64 J] 26)).heap.size):=Nat.le_trans H3.out.2.size (a_b w3 _).size
    have H9:Hid (∀ v0 w0,w0.ownsRow I.heap.size 26 3 v0 (j+1) (xs++[.slice px nx cx,.slice py ny cy,.int .i64 J])->(∀ w',Below I.heap.size w' (w3.alloc (.cells #[.slice px nx cx,.slice py ny cy,.int .i64 J] 26))->Below I.heap.size w' w0)->ExO w I.heap.size ((l.drop (H - (j+1))).reverse) v0 w0/\Below I.heap.size I w0):=fun v0 w0 g1 g3=>by
     refine ⟨?_,g3 I (a_c H3.out.2 (a_b w3 _))⟩;rw [HR.out.2.2.2,eL];refine ExO.push (xs:=xs) av (by rw [ai];exact R.1) ?_ HR.out.1 HR.out.2.1 HR.out.2.2.1;rw [ai];exact g1
    have aK:j+1<=1073741825:=by omega
    clear R av eL ai H3 HR;go_wp2_with (at_builtin;refine b_p exT (by decide) (by decide) rfl (.tmp 52) (.tmp 57) rfl I.heap.size _ j xs rfl H5.out _ [.slice px nx cx,.slice py ny cy,.int .i64 J] rfl H6.out rfl H7.out aK H8.out ?_;intro v0 w0 H0 O0 B0)
    have HA:Hid (ExO w I.heap.size ((l.drop (H - (j+1))).reverse) v0 w0/\Below I.heap.size I w0):=H9.out v0 w0 H0.out B0.out;clear H0 O0 B0 H5 H6 H7 H8 H9 c0 c1 V kq;go_wp2;go_roundg (H - (j+1))
    case measure=>omega
    case rel=>exact ⟨j+1,by omega,rfl,by first|rfl|(congr 1;omega),HA.out.1,HA.out.2⟩
  ·obtain rfl:H=j:=by omega
   obtain ⟨R1,aF⟩:∃ R1:World,R1=wr:=⟨_,rfl⟩
   subst aF;rw [Nat.sub_self,List.drop_zero] at HV;have au:Hid (Below w.heap.size w R1):=a_c ac.out HB.out;have aG:0<=M:=by rw [<- HM.out.1];exact p_t HM.out.2.1
   obtain ⟨m,em⟩:=Int.eq_ofNat_of_zero_le aG;subst em;have aO:m<=80:=by have:=HM.out.2.2.1;omega
   have ao:(H:Int) - (H:Int) - 1 = -1:=by omega
   rw [ao];go_wp2_with fail
   refine (k_Y pp np cp P m (by omega) (by omega) R1 (HN.out.2.2.1.1.up au.out)).mono ?_;rintro e w4 ⟨v4,rfl,aa,ad⟩;obtain ⟨p4,n4,c4,rfl⟩:=aa.form_;have g0:=a_d (a_d HX.out.1 HB.out) ad;have g1:=a_d (a_d HX.out.2 HB.out) ad;have kg:=a_f g0
   have aD:n4=m:=by
    obtain ⟨_,_,_,e,h⟩:=aa.nums.lst;cases e;rw [<- h.out.1,o_L]
   subst aD;obtain ⟨Q,eQ⟩:∃ Q,m_8 P n4=Q:=⟨_,rfl⟩
   rw [eQ] at aa;have H4:Hid (RowI w4 p4 n4 c4 Q/\Below w.heap.size w w4/\ExO w I.heap.size l.reverse u11 w4):=⟨⟨aa.nums,by rw [<- eQ];exact q_Z HN.out.2.2.1.2.1 _,aa.cap⟩,a_c au.out ad,HV.out.up ad⟩
   obtain ⟨pm,nm,cm,aI,aB,_⟩:=H4.out.2.2.exr H4.out.2.1;subst aI;have aM:nm=H:=by rw [aB,List.length_reverse,HN.out.2.2.2.1]
   subst aM
   have HE:Hid (∀ W,Below w4.heap.size w4 W->ExR W pm nm l.reverse):=fun W hW=>by
    obtain ⟨a,b,c,e1,e2,e3⟩:=(H4.out.2.2.up hW).exr (a_c H4.out.2.1 hW);cases e1;exact e3
   clear aa ad eQ au HB HX HV aB ao;go_wp2_with fail
   obtain ⟨⟨E,S0,A⟩,eT⟩:∃ T,n_l d ls k Q l=T:=⟨_,rfl⟩
   obtain ⟨⟨E',ax,A'⟩,aj⟩:∃ T,n_l d ls k Q l.reverse=T:=⟨_,rfl⟩
   have az:Hid ((E=0/\E'=0∨E≠0/\E'≠0)/\A=A'/\S0=ax):=by
    have e1:i_h (g_s d ls k Q) (nP d ls).toNat l=(E,S0,A):=eT;have e2:i_h (g_s d ls k Q) (nP d ls).toNat l.reverse=(E',ax,A'):=aj;by_cases h:E=0
    ·have:=i_b (f:=g_s d ls k Q) (n:=(nP d ls).toNat) (l:=l) (m:=l.reverse) (by rw [e1];exact h) (List.reverse_perm l).symm;rw [e1,e2] at this;cases this;exact ⟨.inl ⟨h,h⟩,rfl,rfl⟩
    ·have h':E'≠0:=fun h'=>by
      have:=i_b (f:=g_s d ls k Q) (n:=(nP d ls).toNat) (l:=l.reverse) (m:=l) (by rw [e2];exact h') (List.reverse_perm l);rw [e1,e2] at this;cases this;exact h h'
     have a:=j_b (f:=g_s d ls k Q) (n:=(nP d ls).toNat) (l:=l) (by rw [e1];exact h);have b:=j_b (f:=g_s d ls k Q) (n:=(nP d ls).toNat) (l:=l.reverse) (by rw [e2];exact h');rw [e1] at a;rw [e2] at b;exact ⟨.inr ⟨h,h'⟩,a.2.trans b.2.symm,a.1.trans b.1.symm⟩
   obtain ⟨A1,aA⟩:∃ y,A / 18446744073709551616=y:=⟨_,rfl⟩
   obtain ⟨A2,aC⟩:∃ y,A % 18446744073709551616=y:=⟨_,rfl⟩
   have ar:wd A = .agg #[.int .i64 A1,.int .u64 A2]:=by unfold wd;rw [aA,aC]
   have cc:=CS.out d ls Q HM.out.2.1 k l p p2 p4 pl n c n2 c2 n4 c4 nm cl (by have:=HM.out.2.2.2;omega) (by omega) (by omega) (by have:=HM.out.1;have:=HM.out.2.2.1;omega) w4 (Hid.up_tz hT H4.out.2.1) (Hid.up_kz hK H4.out.2.1) (HN.out.1.up H4.out.2.1) (HN.out.2.1.up H4.out.2.1) H4.out.1 (HN.out.2.2.2.up H4.out.2.1);rw [eT] at cc;dsimp only at cc;rw [ar] at cc;refine cc.mono ?_;rintro e w5 ⟨v5,rfl,⟨p5,n5,c5,rfl,r5⟩,ab⟩;have H5:Hid (RowI w5 p4 n4 c4 Q/\Below w.heap.size w w5/\WdR w5 p5 n5 S0/\Below w4.heap.size w4 w5):=⟨H4.out.1.up ab,a_c H4.out.2.1 ab,r5,ab⟩
   replace g0:=a_d g0 ab;replace g1:=a_d g1 ab;replace kg:=a_f g0;clear cc r5 ab eT;go_wp2_with fail
   generalize an:World.alloc _ _=K5;have af:Below w5.heap.size w5 K5:=by rw [<- an];exact a_b _ _
   have O:Hid (RowI K5 p4 n4 c4 Q/\Below w.heap.size w K5/\WdR K5 p5 n5 S0/\Below w4.heap.size w4 K5):=⟨H5.out.1.up af,a_c H5.out.2.1 af,H5.out.2.2.1.up af,a_c H5.out.2.2.2 af⟩
   have q0:K5.cell? ⟨w5.heap.size,0,none⟩=some (.int .i64 A1):=by rw [<- an];simp [go_sem]
   have q1:K5.cell? ⟨w5.heap.size,1,none⟩=some (.int .u64 A2):=by rw [<- an];simp [go_sem]
   clear an af H5;have cc:=CS.out d ls Q HM.out.2.1 k l.reverse p p2 p4 pm n c n2 c2 n4 c4 nm cm (by have:=HM.out.2.2.2;omega) (by omega) (by omega) (by have:=HM.out.1;have:=HM.out.2.2.1;omega) K5 (Hid.up_tz hT O.out.2.1) (Hid.up_kz hK O.out.2.1) (HN.out.1.up O.out.2.1) (HN.out.2.1.up O.out.2.1) O.out.1 (HE.out K5 O.out.2.2.2);rw [aj] at cc;dsimp only at cc;obtain ⟨aN,aE,aJ⟩:=az.out;subst aE;subst aJ;rw [ar] at cc;refine cc.mono ?_;rintro e w6 ⟨v6,rfl,⟨p6,n6,c6,rfl,r6⟩,ag⟩;replace q0:=a_d q0 ag;replace q1:=a_d q1 ag;have kq:=a_f q0;have H6:Hid (Below w.heap.size w w6/\WdR w6 p5 n5 S0/\WdR w6 p6 n6 S0):=⟨a_c O.out.2.1 ag,O.out.2.2.1.up ag,r6⟩
   have H7:Hid (∀ W,Below w6.heap.size w6 W->Calls Tryz.prog 16 #[.slice p5 n5 c5,.slice p6 n6 c6] W fun e w'=>e = .returned (.bool true)/\Below W.heap.size W w'):=fun W hW=>by
    have aL:n5<=1073741824:=by
     have:=H6.out.2.1.1;have h8:=o_X (f:=g_s d ls k Q) (n:=(nP d ls).toNat) (l:=l.reverse);rw [show i_h (g_s d ls k Q) (nP d ls).toNat l.reverse=(E',S0,A) from aj] at h8;have h9:=HM.out.1;have aT:=HM.out.2.2.1;dsimp only at h8;omega
    have cw:=m_7 p5 p6 n5 c5 n6 c6 S0 S0 aL W (H6.out.2.1.up hW) (H6.out.2.2.up hW);rw [decide_eq_true rfl] at cw;exact cw
   have hq:=fun W=>i_4 A1 A2 A1 A2 W;simp only [decide_true] at hq;clear cc r6 ag O g0 g1 kg az aj HE H4 ar aA aC;rcases aN with ⟨rfl,rfl⟩|⟨hE,aH⟩
   ·go_wp2_with fail
    refine (H7.out _ (a_b _ _)).mono ?_;rintro e w7 ⟨rfl,ae⟩;have aw:Hid (Below w.heap.size w w7):=a_c H6.out.1 (a_c (a_b _ _) ae);clear ae H6 H7;go_wp2;go_ret;exact ⟨rfl,aw.out⟩
   ·have x1:(E==0)=false:=by simpa using hE
    have x2:(E'==0)=false:=by simpa using aH
    go_wp2_with fail
    refine (H7.out _ (a_b _ _)).mono ?_;rintro e w7 ⟨rfl,ae⟩;have aw:Hid (Below w.heap.size w w7):=a_c H6.out.1 (a_c (a_b _ _) ae);clear ae H6 H7;go_wp2;go_ret;exact ⟨rfl,aw.out⟩
theorem gturns_walk (w:World) (hT:Hid (Tz w)) (hK:Hid (Kz w)) (z:Nat->Int) (n c:Nat) (p:Option Addr) (ls:List Ly) (M J:Nat) (H:Option Addr) (k:Int) (U:Nat->Int) (L I:Nat) (O:Option Addr) (l:List Exm) (R cl:Nat) (D:Option Addr) (V:RowN .i64 w p n c z) (h2:LayN w H M J ls) (hk:-9223372036854775808<=k/\k<=9223372036854775807) (h3:RowN .i64 w O L I U) (h4:ExsN w D R cl l):
  Calls Tryz.prog 7 #[.agg #[.slice p n c,.slice H M J],.int .i64 k,.slice O L I,.slice D R cl] w fun e w'=>e = .returned (.bool true)/\Below w.heap.size w w':=n_g (fun _ _ _=>s_z (q_7 _ _ _)) (t_D (o_P _)) w hT hK z n c p ls M J H k U L I O l R cl D V h2 h3 h4
end Go.Proofs.YtjlofobnmjompaaGreatDoor.Wd
namespace Go.Proofs.YtjlofobnmjompaaGreatDoor.Wd
open Go.RowKit
theorem c_G {H:Type} {enc:TypeId×Value->H} {P:Program} {w:World} {O:Nat} {sp:Nat->Bool} {L:Bool} {fuel:Nat} {e q:TypeId} {I M J:Field} {ds:List Value} {bs:List UInt8} {a b c:Int} {p:List MemPlace}
  (he:P.underlying e=some (.struct #[I,M,J])) (ce:P.cellsOf e=4) (o0:I.offset=0) (o1:M.offset=1) (o2:J.offset=2) (c0:P.cellsOf I.type=1) (c1:P.cellsOf M.type=1) (c2:P.cellsOf J.type=2)
  (u0:P.underlying I.type=some .string) (u1:P.underlying M.type=some (.int .i64)) (u2:P.underlying J.type=some (.array 2 q)) (uq:P.underlying q=some (.int .i64)) (cq:P.cellsOf q=1)
  (h:DataW.trod enc P w O sp L fuel e ds=some (.agg [.lit (.string bs),.lit (.int .i64 a),.agg [.lit (.int .i64 b),.lit (.int .i64 c)]],p)):ds = [.string ⟨bs.toArray⟩,.int .i64 a,.int .i64 b,.int .i64 c]:=by
 obtain ⟨ys,n,_,hx,hl,V,hf⟩:=DataW.trod_struct he h;rw [ce] at hl;have D:=(Prod.mk.inj hx).1;simp only [DataW.agg.injEq] at D
 match ys,V with
 | [y0,y1,y2],_=>
  simp only [List.map_cons,List.map_nil,List.cons.injEq,and_true] at D;obtain ⟨h0,U,h2⟩:=D;have t0:=hf 0 I rfl;have t1:=hf 1 M rfl;have t2:=hf 2 J rfl
  match ds,hl with
  | [v0,v1,v2,v3],_=>
   simp [o0,c0] at t0;simp [o1,c1] at t1;simp [o2,c2] at t2;obtain ⟨z0,e0,x0,_⟩:=DataW.trod_string u0 t0;obtain ⟨z1,e1,x1,_⟩:=DataW.trod_int u1 t1;obtain ⟨ab,aa⟩:=y2;simp only [] at h2;subst h2;have R:=Lib.cells_of_tab (zs:=[b,c]) u2 uq cq c2 t2;simp only [List.cons.injEq,and_true,List.map_cons,List.map_nil] at e0 e1 R;obtain ⟨R,e3⟩:=R;subst e0 e1 R e3;rw [x0] at h0;rw [x1] at U;simp only [DataW.lit.injEq,Lit.string.injEq,Lit.int.injEq,true_and] at h0 U;subst U;rw [h0]
theorem t_v {α:Type} (l:List α) (h:l.length=20):l=(l.drop 0).take 4++((l.drop 4).take 4++((l.drop 8).take 4++((l.drop 12).take 4++(l.drop 16).take 4))):=by
 have k:∀ n,l.drop n=(l.drop n).take 4++l.drop (n+4):=fun n=>by
  have:=(List.take_append_drop 4 (l.drop n)).symm;rw [List.drop_drop] at this;exact this
 conv=>lhs;rw [<- List.drop_zero (l:=l),k 0,k 4,k 8,k 12,k 16,List.drop_eq_nil_of_le (show l.length<=16+4 by omega),List.append_nil]
theorem kinds_cells {H:Type} {enc:TypeId×Value->H} {P:Program} {w:World} {ac:Nat} {sp:Nat->Bool} {aa:Bool} {fuel:Nat} {t e q:TypeId} {f0 f1 f2:Field} {I:List Value} {p:List MemPlace}
  (ht:P.underlying t=some (.array 5 e)) (ct:P.cellsOf t=20)
  (he:P.underlying e=some (.struct #[f0,f1,f2])) (J:P.cellsOf e=4) (M:f0.offset=0) (O:f1.offset=1) (o2:f2.offset=2) (c0:P.cellsOf f0.type=1) (c1:P.cellsOf f1.type=1) (R:P.cellsOf f2.type=2)
  (u0:P.underlying f0.type=some .string) (u1:P.underlying f1.type=some (.int .i64)) (u2:P.underlying f2.type=some (.array 2 q)) (uq:P.underlying q=some (.int .i64)) (cq:P.cellsOf q=1)
  (h:DataW.trod enc P w ac sp aa fuel t I=some (Rows.laid_carousel_model_kinds,p)):I=kArr.toList:=by
 cases fuel with
 | zero=>simp [DataW.trod] at h
 | succ fuel=>
  simp only [DataW.trod,ht,J,ct] at h
  split at h
  ·rename_i hl
   obtain ⟨xs,hm,hx⟩:=Option.map_eq_some_iff.1 h;have D:=(Prod.mk.inj hx).1;unfold Rows.laid_carousel_model_kinds at D;simp only [DataW.agg.injEq] at D;have ae:xs.length=5:=by simpa using Lib.mapM_length hm
   have g:=fun i (hi:i < 5)=>Lib.mapM_at hm i i (by simp [hi]);obtain ⟨b0,U,g0⟩:=g 0 (by omega);obtain ⟨b1,ab,g1⟩:=g 1 (by omega);obtain ⟨b2,ad,g2⟩:=g 2 (by omega);obtain ⟨b3,L,g3⟩:=g 3 (by omega);obtain ⟨b4,V,g4⟩:=g 4 (by omega)
   match xs,ae with
   | [(d0,q0),(d1,q1),(d2,q2),(d3,q3),(d4,q4)],_=>
    simp only [List.map_cons,List.map_nil,List.cons.injEq,and_true] at D;obtain ⟨rfl,rfl,rfl,rfl,rfl⟩:=D;simp at U ab ad L V;subst U ab ad L V;have r0:=c_G he J M O o2 c0 c1 R u0 u1 u2 uq cq g0;have r1:=c_G he J M O o2 c0 c1 R u0 u1 u2 uq cq g1;have r2:=c_G he J M O o2 c0 c1 R u0 u1 u2 uq cq g2;have r3:=c_G he J M O o2 c0 c1 R u0 u1 u2 uq cq g3;have r4:=c_G he J M O o2 c0 c1 R u0 u1 u2 uq cq g4;rw [t_v I (by omega)];rw [show (List.drop 0 I).take 4=_ from r0,show (List.drop 4 I).take 4=_ from r1,show (List.drop 8 I).take 4=_ from r2,show (List.drop 12 I).take 4=_ from r3,show (List.drop 16 I).take 4=_ from r4];rfl
  ·cases h
theorem kz_var {W : World} (h : W.var? Tryz.prog "carousel/model.kinds" = some kArr) : Kz W := by
 have D:=World.var?_cell (g:=0) (by kernel_rfl) h;intro i H;have e:∀ j,j < 20->kArr[j]?=kArr.toList[j]?:=fun j _=>by simp
 rcases (show i=0∨i=1∨i=2∨i=3∨i=4 by omega) with rfl|rfl|rfl|rfl|rfl
 ·exact ⟨(D 0).trans rfl,(D 1).trans rfl,(D 2).trans rfl,(D 3).trans rfl⟩
 ·exact ⟨(D 4).trans rfl,(D 5).trans rfl,(D 6).trans rfl,(D 7).trans rfl⟩
 ·exact ⟨(D 8).trans rfl,(D 9).trans rfl,(D 10).trans rfl,(D 11).trans rfl⟩
 ·exact ⟨(D 12).trans rfl,(D 13).trans rfl,(D 14).trans rfl,(D 15).trans rfl⟩
 ·exact ⟨(D 16).trans rfl,(D 17).trans rfl,(D 18).trans rfl,(D 19).trans rfl⟩
end Go.Proofs.YtjlofobnmjompaaGreatDoor.Wd
