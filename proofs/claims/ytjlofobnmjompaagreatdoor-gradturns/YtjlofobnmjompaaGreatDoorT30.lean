/- The code's Do, whatever it is asked. · The code's tape: Len. · The code's lay: one step of a plan on the tape. · The code's plans: param, dense. · The code's plans: dense, layer. -/
import Derived.Test.YtjlofobnmjompaaGreatDoorT22
import Derived.Test.YtjlofobnmjompaaGreatDoorT28
import Derived.Test.YtjlofobnmjompaaGreatDoorT29
import Derived.Test.YtjlofobnmjompaaGreatDoorT17
import Derived.Test.YtjlofobnmjompaaGreatDoorT26
set_option linter.unusedVariables false
set_option linter.unusedSimpArgs false
set_option maxHeartbeats 16000000
set_option maxRecDepth 16000
namespace Go.Proofs.YtjlofobnmjompaaGreatDoor.Wd
open Go.RowKit Fx
theorem t_W {op:Int} (h:¬ byP op) (D X H I:List Int) (k:Int):rkE op D X H I k=rkE op D X H I 0/\rkD op D X H I k=rkD op D X H I 0/\rkV op D X H I k=rkV op D X H I 0:=by
 have O:op≠5:=fun e=>h (.inl e);have R:op≠8:=fun e=>h (.inr (.inl e));have M:op≠11:=fun e=>h (.inr (.inr (.inl e)));have J:op≠12:=fun e=>h (.inr (.inr (.inr (.inl e))));have L:op≠13:=fun e=>h (.inr (.inr (.inr (.inr e))));unfold rkE rkD rkV;simp only [if_neg O,if_neg R,if_neg M,if_neg J,if_neg L];exact ⟨trivial,trivial,trivial⟩
theorem o_y (B H:Nat) (ns:List Nd) (hG:NodesG ns) (op a b k:Int) (hk:InR op/\InR a/\InR b/\InR k) (w:World) (R:TapC w B H ns) (D:512<=ns.length):
  Calls Tryz.prog 83 #[.pointer (some ⟨H,0,none⟩),.int .i64 op,.int .i64 a,.int .i64 b,.int .i64 k] w fun e L=>e = .returned (.tuple #[.int .i64 (doR ns op a b k),.int .i64 (doE ns op a b k)])/\TapC L B H (doN ns op a b k)/\Below B w L/\Only SC w L/\Spar2 H w L:=by
 have I:Hid (TapC w B H ns):=R;have hf:decide (512<=ns.length)=true:=decide_eq_true D;have M:doE ns op a b k=2:=if_pos D;have O:doR ns op a b k=0:=if_neg fun h=>by have:=h.1.1;omega
 have U:doN ns op a b k=ns:=if_neg fun h=>by have:=h.1.1;omega
 rw [M,O,U];clear M O U D R hk;go_enter Tryz.func83,Tryz.ntmps83;go_wp2_with fail
 refine (c_e B H ns true hf w I.out).mono ?_;rintro e w9 ⟨rfl,J⟩;have V:=J.symm;subst V;clear J;clear hf;go_wp2;exact bodyPost_ret (v:=.tuple #[.int .i64 0,.int .i64 2]) (by simp [results,Tryz.results83,go_sem]) rfl ⟨rfl,I.out,Below.refl _ _,Only.refl _ _,Spar2.of (Below.refl _ _)⟩
theorem q_P (B M:Nat) (ns:List Nd) (hG:NodesG ns) (op a b k:Int) (hk:InR op/\InR a/\InR b/\InR k) (w:World) (hT:TapC w B M ns) (O:ns.length < 512) (L:¬ ((0<=a/\a < (ns.length:Int))/\(c_0 op->0<=b/\b < (ns.length:Int)))):
  Calls Tryz.prog 83 #[.pointer (some ⟨M,0,none⟩),.int .i64 op,.int .i64 a,.int .i64 b,.int .i64 k] w fun e w'=>e = .returned (.tuple #[.int .i64 (doR ns op a b k),.int .i64 (doE ns op a b k)])/\TapC w' B M (doN ns op a b k)/\Below B w w'/\Only SC w w'/\Spar2 M w w':=by
 have H:Hid (TapC w B M ns):=hT;have hf:decide (512<=ns.length)=false:=decide_eq_false (by omega);have ho:¬ okD ns op a b:=fun h=>L h.2;have e1:doE ns op a b k=1:=(if_neg (by omega)).trans (if_neg ho);have e2:doR ns op a b k=0:=if_neg fun h=>ho h.1.2;have e3:doN ns op a b k=ns:=if_neg fun h=>ho h.1.2;rw [e1,e2,e3];clear e1 e2 e3 hT hk ho O;by_cases U:0<=a/\a < (ns.length:Int)
 ·have R:c_0 op/\¬ (0<=b/\b < (ns.length:Int)):=by
   by_cases R:c_0 op
   ·exact ⟨R,fun hb=>L ⟨U,fun _=>hb⟩⟩
   ·exact absurd ⟨U,fun h=>absurd h R⟩ L
  have hq:decide (c_0 op)=true:=decide_eq_true R.1;have hb:decide (0<=b/\b < (ns.length:Int))=false:=decide_eq_false R.2;have J:decide (0<=a/\a < (ns.length:Int))=true:=decide_eq_true U;clear R U L;go_enter Tryz.func83,Tryz.ntmps83;go_wp2_with fail
  refine (c_e B M ns false hf w H.out).mono ?_;rintro e V ⟨rfl,D⟩;have I:=D.symm;subst I;clear D;go_wp2_with fail
  refine (c_R B M ns a true J w H.out).mono ?_;rintro e V ⟨rfl,D⟩;have I:=D.symm;subst I;clear D;go_wp2_with fail
  refine (f_K op true hq w).mono ?_;rintro e V ⟨rfl,D⟩;have I:=D.symm;subst I;clear D;go_wp2_with fail
  refine (c_R B M ns b false hb w H.out).mono ?_;rintro e V ⟨rfl,D⟩;have I:=D.symm;subst I;clear D;clear hf hq hb J;go_wp2;exact bodyPost_ret (v:=.tuple #[.int .i64 0,.int .i64 1]) (by simp [results,Tryz.results83,go_sem]) rfl ⟨rfl,H.out,Below.refl _ _,Only.refl _ _,Spar2.of (Below.refl _ _)⟩
 ·have J:decide (0<=a/\a < (ns.length:Int))=false:=decide_eq_false U;clear U L;go_enter Tryz.func83,Tryz.ntmps83;go_wp2_with fail
  refine (c_e B M ns false hf w H.out).mono ?_;rintro e V ⟨rfl,D⟩;have I:=D.symm;subst I;clear D;go_wp2_with fail
  refine (c_R B M ns a false J w H.out).mono ?_;rintro e V ⟨rfl,D⟩;have I:=D.symm;subst I;clear D;clear hf J;go_wp2;exact bodyPost_ret (v:=.tuple #[.int .i64 0,.int .i64 1]) (by simp [results,Tryz.results83,go_sem]) rfl ⟨rfl,H.out,Below.refl _ _,Only.refl _ _,Spar2.of (Below.refl _ _)⟩
theorem p_l (B tb:Nat) (ns:List Nd) (hG:NodesG ns) (op a b k:Int) (ah:RkC op) (hk:InR op/\InR a/\InR b/\InR k) (w:World) (hT:TapC w B tb ns) (an:Hid (Tz w)):
  Calls Tryz.prog 83 #[.pointer (some ⟨tb,0,none⟩),.int .i64 op,.int .i64 a,.int .i64 b,.int .i64 k] w fun e w'=>e = .returned (.tuple #[.int .i64 (doR ns op a b k),.int .i64 (doE ns op a b k)])/\TapC w' B tb (doN ns op a b k)/\Below B w w'/\Only SC w w'/\Spar2 tb w w':=by
 by_cases hf:512<=ns.length
 ·exact o_y B tb ns hG op a b k hk w hT hf
 by_cases J:(0<=a/\a < (ns.length:Int))/\(c_0 op->0<=b/\b < (ns.length:Int))
 case neg=>exact q_P B tb ns hG op a b k hk w hT (by omega) J
 obtain ⟨O,rfl⟩:∃ i:Nat,a=i:=⟨a.toNat,by have:=J.1;omega⟩
 have ao:O < ns.length:=by have:=J.1;omega
 obtain ⟨H,M⟩:∃ nd,ns[O]?=some nd:=⟨_,List.getElem?_eq_getElem ao⟩
 have ak:c_r H.D H.X:=hG H (f_J M);have ag:=k_J M;obtain ⟨E,eE⟩:∃ E,rqE op H.D H.X (dD ns op b) (dX ns op b) k=E:=⟨_,rfl⟩
 obtain ⟨D,eD⟩:∃ E,rqD op H.D H.X (dD ns op b) (dX ns op b) k=E:=⟨_,rfl⟩
 obtain ⟨V,eV⟩:∃ E,rqV op H.D H.X (dD ns op b) (dX ns op b) k=E:=⟨_,rfl⟩
 have ac:rkE op H.D H.X (dD ns op b) (dX ns op b) k=rkE op H.D H.X (dD ns op b) (dX ns op b) (dK op k)/\rkD op H.D H.X (dD ns op b) (dX ns op b) k=rkD op H.D H.X (dD ns op b) (dX ns op b) (dK op k)/\rkV op H.D H.X (dD ns op b) (dX ns op b) k=rkV op H.D H.X (dD ns op b) (dX ns op b) (dK op k):=by
  unfold dK;by_cases h:byP op
  ·rw [if_pos h];exact ⟨rfl,rfl,rfl⟩
  ·rw [if_neg h];exact t_W h _ _ _ _ _
 have aa:doE ns op (O:Int) b k=E:=by
  refine (if_neg (by omega)).trans ?_;rw [<- eE];unfold rqE;by_cases L:2<=op/\op<=14
  ·rw [if_pos L,if_pos ⟨L,J⟩];unfold dE;rw [ag,ac.1]
  ·rw [if_neg L,if_neg fun h=>L h.1]
 have af:E=0->2<=op/\op<=14:=fun h=>by
  by_cases L:2<=op/\op<=14
  ·exact L
  ·rw [<- eE] at h;unfold rqE at h;rw [if_neg L] at h;cases h
 rw [aa];obtain ⟨RR,eR⟩:∃ R,doR ns op (O:Int) b k=R:=⟨_,rfl⟩
 obtain ⟨NS,eS⟩:∃ R,doN ns op (O:Int) b k=R:=⟨_,rfl⟩
 rw [eR,eS]
 have aj:(E=0->RR=(ns.length:Int)/\NS=ns++[⟨op,(O:Int),dB op b,dK op k,D,V⟩])/\(E≠0->RR=0/\NS=ns):=by
  rw [<- eR,<- eS];refine ⟨fun h=>?_,fun h=>?_⟩
  ·have L:=af h;have hP:doP ns op (O:Int) b k:=⟨⟨by omega,L,J⟩,by rw [<- aa] at h;unfold doE at h;rw [if_neg hf,if_pos ⟨L,J⟩] at h;exact h⟩
   refine ⟨if_pos hP,(if_pos hP).trans ?_⟩;unfold dN;rw [ag,<- ac.2.1,<- ac.2.2,<- eD,<- eV];unfold rqD rqV;rw [if_pos L,if_pos L]
  ·have hP:¬ doP ns op (O:Int) b k:=fun h'=>h (by
    have I:=aa;unfold doE at I;rw [if_neg hf,if_pos h'.1.2] at I;rw [<- I];exact h'.2)
   exact ⟨if_neg hP,if_neg hP⟩
 have ab:ns.length < 512:=by omega
 have ae:RI (dD ns op b)/\RI (dX ns op b):=by
  unfold dD dX;by_cases I:c_0 op
  ·rw [if_pos I,if_pos I];exact (hG.at (J.2 I).1 (J.2 I).2).2
  ·rw [if_neg I,if_neg I];exact ⟨fun y hy=>by simp at hy,fun y hy=>by simp at hy⟩
 refine r_9 B tb ns op O b k H M (dD ns op b) (dX ns op b) (dB op b) (dK op k) ?_ ?_ ab E D V RR NS aj w hT ?_
 ·by_cases I:c_0 op
  ·have hb:=J.2 I;obtain ⟨bi,rfl⟩:∃ i:Nat,b=i:=⟨b.toNat,by omega⟩
   obtain ⟨am,U⟩:∃ nd,ns[bi]?=some nd:=⟨_,List.getElem?_eq_getElem (by omega)⟩
   have ad:=k_J U;exact .inl ⟨I,if_pos I,bi,am,rfl,U,(if_pos I).trans (by rw [ad]),(if_pos I).trans (by rw [ad])⟩
  ·exact .inr ⟨I,if_neg I,if_neg I,if_neg I⟩
 ·by_cases h3:byP op
  ·exact .inl ⟨h3,if_pos h3⟩
  ·exact .inr ⟨h3,if_neg h3⟩
 intro W pA qA pB qB nA cA mA eA nB cB mB eB hW g1 g2 g3 g4 g5;rw [<- eE,<- eD,<- eV];exact ah pA qA pB qB nA cA mA eA nB cB mB eB _ _ _ _ k hk.2.2.2 ak ae.1 ae.2 g3 W (Hid.up_tz an hW) g1 g2 g4 g5
theorem d_B (B R:Nat) (ns:List Nd) (w:World) (J:TapC w B R ns):Calls Tryz.prog 40 #[.pointer (some ⟨R,0,none⟩)] w fun e V=>e = .returned (.int .i64 (ns.length:Int))/\V=w:=by
 have L:Hid (TapC w B R ns):=J;obtain ⟨pL,cL,aa,H,U,O,D⟩:=Tap.head J;obtain ⟨N,M⟩:∃ N,ns.length=N:=⟨_,rfl⟩
 rw [M] at H U D;have I:=(b_H H).1;have hz:=a_i H;rw [M];clear J L H U O D M;go_enter Tryz.func40,Tryz.ntmps40;go_wp2;go_ret;exact ⟨rfl,rfl⟩
/-- What one step makes of the nodes: an error, its number, the nodes. -/
def stE (f:Int) (ns:List Nd) (st:Sp):Int:=if st.op=1 then e_M ns st.D st.X else doE ns st.op (f+st.a) (f+st.b) st.k
def stR (f:Int) (ns:List Nd) (st:Sp):Int:=if st.op=1 then e_N ns st.D st.X else doR ns st.op (f+st.a) (f+st.b) st.k
def stN (f:Int) (ns:List Nd) (st:Sp):List Nd:=if st.op=1 then c_B ns st.D st.X else doN ns st.op (f+st.a) (f+st.b) st.k
/-- A step that a plan may hold. -/
structure SpOk (st:Sp):Prop where
 ra:0<=st.a/\st.a<=1000
 rb:0<=st.b/\st.b<=1000
 rk:0<=st.k/\st.k<=1000
 rop:1<=st.op/\st.op<=14
 rD:RI st.D
 rX:RI st.X
theorem q_Q (B I:Nat) (ns:List Nd) (hG:NodesG ns) (st:Sp) (af:SpOk st) (aa:st.op≠1->RkC st.op) (f:Int) (hf:0<=f/\f<=1000) (p:Option Addr) (n c:Nat) (p2:Option Addr) (n2 c2:Nat) (w:World) (hT:TapC w B I ns) (ah:Hid (Tz w)) (h1:Nums .i64 w (.slice p n c) st.D) (h2:Nums .i64 w (.slice p2 n2 c2) st.X):
  Calls Tryz.prog 61 #[.pointer (some ⟨I,0,none⟩),.agg #[.int .i64 st.op,.int .i64 st.a,.int .i64 st.b,.int .i64 st.k,.slice p n c,.slice p2 n2 c2,.bool st.par],.int .i64 f] w fun e J=>e = .returned (.tuple #[.int .i64 (stR f ns st),.int .i64 (stE f ns st)])/\TapC J B I (stN f ns st)/\Below B w J/\Only SC w J/\Spar2 I w J:=by
 obtain ⟨op,a,b,k,D,X,ac⟩:=st;obtain ⟨ra,rb,rk,ag,rD,rX⟩:=af;simp only [] at ra rb rk ag rD rX h1 h2 aa ⊢;obtain ⟨R,eR⟩:∃ R,stR f ns ⟨op,a,b,k,D,X,ac⟩=R:=⟨_,rfl⟩
 obtain ⟨E,eE⟩:∃ R,stE f ns ⟨op,a,b,k,D,X,ac⟩=R:=⟨_,rfl⟩
 obtain ⟨NS,eN⟩:∃ R,stN f ns ⟨op,a,b,k,D,X,ac⟩=R:=⟨_,rfl⟩
 rw [eR,eE,eN]
 have ab:B<=w.heap.size:=by
  obtain ⟨hb,v,xs,hv,_⟩:=hT;exact Nat.le_trans hb (Nat.le_of_lt (a_i hv))
 have HZ:Hid (B<=w.heap.size):=ab;by_cases h0:op=1
 ·subst h0
  have cl:Hid (∀ W,Below w.heap.size w W->Calls Tryz.prog 82 #[.pointer (some ⟨I,0,none⟩),.agg #[.slice p n c,.slice p2 n2 c2]] W fun e J=>e = .returned (.tuple #[.int .i64 R,.int .i64 E])/\TapC J B I NS/\Below B W J/\Only SC W J/\Spar2 I W J):=fun W hW=>by
   have:=j_Z B I ns hG p p2 n c n2 c2 D X rD rX W (hT.up hW) (h1.up hW) (h2.up hW);rw [<- eR,<- eE,<- eN];exact this
  clear eR eE eN hT h1 h2 aa rD rX ab;go_enter Tryz.func61,Tryz.ntmps61;go_wp2_with fail
  generalize L:World.alloc _ _=W0;have H:Hid (Below w.heap.size w W0):=by rw [<- L];exact a_b w _
  clear L;refine (cl.out W0 H.out).mono ?_;rintro e w1 ⟨rfl,V,U,M,O⟩;have HF:Hid (TapC w1 B I NS/\Below B w w1/\Only SC w w1/\Spar2 I w w1):=⟨V,(H.out.mono HZ.out).trans U,(Only.of H.out).trans M,Spar2.trans (Spar2.of H.out) O H.out.size⟩
  clear V U M O cl;go_wp2;go_ret2;exact ⟨rfl,HF.out⟩
 ·have ai:(op==1)=false:=by simpa using h0
  obtain ⟨fa,ad⟩:∃ x,f+a=x:=⟨_,rfl⟩
  obtain ⟨fb,ae⟩:∃ x,f+b=x:=⟨_,rfl⟩
  have cd:Hid (∀ W,Below w.heap.size w W->Calls Tryz.prog 83 #[.pointer (some ⟨I,0,none⟩),.int .i64 op,.int .i64 fa,.int .i64 fb,.int .i64 k] W fun e J=>e = .returned (.tuple #[.int .i64 R,.int .i64 E])/\TapC J B I NS/\Below B W J/\Only SC W J/\Spar2 I W J):=fun W hW=>by
   have:=p_l B I ns hG op fa fb k (aa h0) (by unfold InR;omega) W (hT.up hW) (Hid.up_tz ah hW);rw [<- eR,<- eE,<- eN];unfold stR stE stN;simp only [if_neg h0];rw [ad,ae];exact this
  have ak:0<=fa/\fa<=2000:=by omega
  have aj:0<=fb/\fb<=2000:=by omega
  clear eR eE eN hT h1 h2 aa rD rX ab;go_enter Tryz.func61,Tryz.ntmps61;go_wp2_with fail
  generalize L:World.alloc _ _=W0;have H:Hid (Below w.heap.size w W0):=by rw [<- L];exact a_b w _
  clear L;refine (cd.out W0 H.out).mono ?_;rintro e w1 ⟨rfl,V,U,M,O⟩;have HF:Hid (TapC w1 B I NS/\Below B w w1/\Only SC w w1/\Spar2 I w w1):=⟨V,(H.out.mono HZ.out).trans U,(Only.of H.out).trans M,Spar2.trans (Spar2.of H.out) O H.out.size⟩
  clear V U M O cd;go_wp2;go_ret2;exact ⟨rfl,HF.out⟩
end Go.Proofs.YtjlofobnmjompaaGreatDoor.Wd
namespace Go.Proofs.YtjlofobnmjompaaGreatDoor.Wd
open Go.RowKit
theorem Kept.none (B:Nat) (W:World):Kept B W (.slice none 0 0) []:=fun _ _=>.inl ⟨rfl,rfl⟩
theorem Kept.cut {B:Nat} {W:World} {p:Option Addr} {n c i j:Nat} {l:List Int} (h:Kept B W (.slice p n c) l) (D:i<=j) (H:j<=n) (I:l.length=n) (L:n<=c):Kept B W (sliced p i j c 1) ((l.drop i).take (j - i)):=fun W' J=>g_S D H I L (h W' J)
theorem m_R (B D:Nat) (sts:List Sp) (rest:List Int) (ae:sts.length<=200) (d:List Int) (aj:k_O d) (m:Nat) (hm:a_t d=(m:Int)) (am:m<=rest.length) (U:rest.length<=1073741824) (p:Option Addr) (n c:Nat) (J w:World) (hP:PlanO B J w D sts rest) (h1:Kept B J (.slice p n c) d):
  Calls Tryz.prog 80 #[.pointer (some ⟨D,0,none⟩),.slice p n c] w fun e w'=>e = .returned (.int .i64 (sts.length:Int))/\PlanO B J w' D (sts++[⟨1,0,0,0,d,rest.take m,true⟩]) (rest.drop m)/\Rn B w w':=by
 have HP:Hid (PlanO B J w D sts rest):=hP;obtain ⟨R,ab,pS,an,cS,pR,I,H,xs,hb,ho,hn,hc,hk,O,ac⟩:=hP;have ad:B<=w.heap.size:=Nat.le_trans R (Nat.le_of_lt (a_i hb));have cs:=d_j _ d aj w (h1 w ab.r4);rw [hm] at cs;obtain ⟨N,eN⟩:∃ N,sts.length=N:=⟨_,rfl⟩
 have HN:Hid (sts.length=N/\N<=200):=⟨eN,by omega⟩
 rw [eN] at ho hn ⊢;subst hn;obtain ⟨⟨x0,y0⟩,⟨x1,y1⟩⟩:=e_n hb;have L:=r_v pR I H m (by omega);have aa:=r_u pR I H m (by omega);obtain ⟨qh,af⟩:=d_b pR 0 m H;obtain ⟨V,ag⟩:=d_b pR m I H;have kh:=hk.cut (Nat.zero_le m) (by omega) ac O;have kl:=hk.cut (show m<=I by omega) (Nat.le_refl _) ac O;rw [List.drop_zero,Nat.sub_zero] at kh;rw [List.take_of_length_le (by rw [List.length_drop];omega)] at kl;rw [af] at L kh;rw [ag] at aa kl;simp only [Nat.sub_zero] at L kh;have HK:Hid (Kept B J (.slice qh m H) (rest.take m)/\Kept B J (.slice V (I - m) (H - m)) (rest.drop m)/\Kept B J (.slice p n c) d):=⟨kh,kl,h1⟩
 have HW:Hid (B<=D/\B<=w.heap.size/\w.heap[D]?=some (.cells #[.slice pS N cS,.slice pR I H] 126 (0,0))/\w.ownsRow B 129 7 (.slice pS N cS) N xs/\StsC B J sts xs/\(rest.drop m).length=I - m/\I - m<=H - m/\Rn B J w):=⟨R,ad,hb,ho,hc,by rw [List.length_drop];omega,by omega,ab⟩
 have ao:=a_f x0;clear R hb ho hc hk O ac ad kh kl h1 ab af ag hm am U ae aj eN;go_enter Tryz.func80,Tryz.ntmps80;go_wp2_with fail
 refine cs.mono ?_;rintro e M ⟨rfl,rfl⟩;clear cs
 have HV:Hid (PlanO B J ((M.setCell ⟨D,1,none⟩ (.slice V (I - m) (H - m))).alloc (.cells #[.slice p n c,.slice qh m H] 64)) D sts (rest.drop m)/\Rn B M ((M.setCell ⟨D,1,none⟩ (.slice V (I - m) (H - m))).alloc (.cells #[.slice p n c,.slice qh m H] 64))):=by
  obtain ⟨h1,h2,h3,h4,h5,h6,h7,h8⟩:=HW.out;have hR:Rn B M (M.setCell ⟨D,1,none⟩ (.slice V (I - m) (H - m))):=⟨(Below.refl _ _).setCell (p:=⟨D,1,none⟩) h1 _,Only.set h3 (by simp)⟩
  have hv:(M.setCell ⟨D,1,none⟩ (.slice V (I - m) (H - m))).heap[D]?=some (.cells #[.slice pS N cS,.slice V (I - m) (H - m)] 126 (0,0)):=by
   rw [a_m h3];rfl
  have ak:PlanO B J (M.setCell ⟨D,1,none⟩ (.slice V (I - m) (H - m))) D sts (rest.drop m):=⟨h1,h8.trans hR,_,_,_,_,_,_,_,hv,by rw [HN.out.1];exact a_A (S:=[126]) h4 (Only.set h3 (by simp)) (by decide),HN.out.1,h5,HK.out.2.1,h7,h6⟩
  exact ⟨ak.up (a_b _ _),hR.trans (Rn.of (Nat.le_trans h2 hR.size) (a_b _ _))⟩
 go_wp2_with fail
 have ca:=g_9 B D sts (rest.drop m) (by rw [HN.out.1];exact HN.out.2) ⟨1,0,0,0,d,rest.take m,true⟩ p n c qh m H J _ HV.out.1 HK.out.2.2 HK.out.1;rw [HN.out.1] at ca;refine ca.mono ?_;rintro e w2 ⟨rfl,ai,ah⟩;have HF:Hid (PlanO B J w2 D (sts++[⟨1,0,0,0,d,rest.take m,true⟩]) (rest.drop m)/\Rn B M w2):=⟨ai,HV.out.2.trans ah⟩
 clear ca ai ah HV x0 x1 y0 y1;go_wp2;go_ret;exact ⟨rfl,HF.out⟩
/-- A step that is no Leaf. -/
abbrev spD (op a b k:Int):Sp:=⟨op,a,b,k,[],[],false⟩
theorem c_h (B H N:Nat) (sts:List Sp) (rest:List Int) (U:sts.length=N) (D:N<=200) (op a b k:Int) (J w:World) (O:PlanO B J w H sts rest):
  Calls Tryz.prog 59 #[.pointer (some ⟨H,0,none⟩),.agg #[.int .i64 op,.int .i64 a,.int .i64 b,.int .i64 k,.slice none 0 0,.slice none 0 0,.bool false]] w fun e I=>e = .returned (.int .i64 (N:Int))/\Hid (PlanO B J I H (sts++[spD op a b k]) rest/\(sts++[spD op a b k]).length=N+1/\Rn B w I):=by
 subst U;refine (g_9 B H sts rest D (spD op a b k) none 0 0 none 0 0 J w O (Kept.none _ _) (Kept.none _ _)).mono ?_;rintro e I ⟨L,M,R⟩;exact ⟨L,M,by simp,R⟩
/-- What dense lays: its steps, and the last one's number. -/
def n_k (two:Bool) (N:Nat) (m r l:Int):List Sp:=if two then [spD 14 l 0 0,spD 4 m (N:Int) 0,spD 8 ((N+1:Nat):Int) 0 1,spD 2 ((N+2:Nat):Int) r 0] else [spD 4 m l 0,spD 8 (N:Int) 0 1,spD 2 ((N+1:Nat):Int) r 0]
def r_a (two:Bool) (N:Nat):Nat:=if two then N+3 else N+2
theorem m_S (B D N:Nat) (sts:List Sp) (rest:List Int) (hN:sts.length=N) (aa:N<=190) (m r l:Int) (p:Option Addr) (n c:Nat) (H w:World) (hP:PlanO B H w D sts rest):
  Calls Tryz.prog 81 #[.pointer (some ⟨D,0,none⟩),.int .i64 m,.int .i64 r,.slice p n c,.int .i64 l] w fun e w'=>e = .returned (.int .i64 (r_a (decide (n=2)) N:Int))/\PlanO B H w' D (sts++n_k (decide (n=2)) N m r l) rest/\Rn B w w':=by
 have O:Hid (PlanO B H w D sts rest/\sts.length=N/\Rn B w w):=⟨hP,hN,Rn.refl _ _⟩
 obtain ⟨R,eR⟩:∃ R,r_a (decide (n=2)) N=R:=⟨_,rfl⟩
 obtain ⟨S,eS⟩:∃ S,sts++n_k (decide (n=2)) N m r l=S:=⟨_,rfl⟩
 have V:Hid (r_a (decide (n=2)) N=R/\sts++n_k (decide (n=2)) N m r l=S):=⟨eR,eS⟩
 rw [eR,eS];clear hP eR eS hN;go_enter Tryz.func81,Tryz.ntmps81;by_cases h2:n=2
 ·subst h2;go_wp2_with fail
  refine (c_h B D N _ rest O.out.2.1 (by omega) 14 l 0 0 H w O.out.1).mono ?_;rintro e w1 ⟨rfl,U⟩;go_wp2_with fail
  refine (c_h B D (N+1) _ rest U.out.2.1 (by omega) 4 m (N:Int) 0 H w1 U.out.1).mono ?_;rintro e w2 ⟨rfl,J⟩;go_wp2_with fail
  refine (c_h B D (N+1+1) _ rest J.out.2.1 (by omega) 8 ((N+1:Nat):Int) 0 1 H w2 J.out.1).mono ?_;rintro e w3 ⟨rfl,I⟩;go_wp2_with fail
  refine (c_h B D (N+1+1+1) _ rest I.out.2.1 (by omega) 2 ((N+2:Nat):Int) r 0 H w3 I.out.1).mono ?_;rintro e M ⟨rfl,L⟩;have e1:R=N+3:=by rw [<- V.out.1];rfl
  have HF:Hid (PlanO B H M D S rest/\Rn B w M):=by
   refine ⟨?_,((U.out.2.2.trans J.out.2.2).trans I.out.2.2).trans L.out.2.2⟩;rw [<- V.out.2];have:=L.out.1;simp only [List.append_assoc,List.cons_append,List.nil_append] at this;exact this
  subst e1;clear U J I L;go_wp2;go_ret;exact ⟨by simp;omega,HF.out⟩
 ·have ab:((n:Int)==2)=false:=by simpa using (show (n:Int)≠2 by omega)
  go_wp2_with fail
  refine (c_h B D N _ rest O.out.2.1 (by omega) 4 m l 0 H w O.out.1).mono ?_;rintro e w2 ⟨rfl,J⟩;go_wp2_with fail
  refine (c_h B D (N+1) _ rest J.out.2.1 (by omega) 8 (N:Int) 0 1 H w2 J.out.1).mono ?_;rintro e w3 ⟨rfl,I⟩;go_wp2_with fail
  refine (c_h B D (N+1+1) _ rest I.out.2.1 (by omega) 2 ((N+1:Nat):Int) r 0 H w3 I.out.1).mono ?_;rintro e M ⟨rfl,L⟩;have e1:R=N+2:=by rw [<- V.out.1,decide_eq_false h2];rfl
  have HF:Hid (PlanO B H M D S rest/\Rn B w M):=by
   refine ⟨?_,(J.out.2.2.trans I.out.2.2).trans L.out.2.2⟩;rw [<- V.out.2,decide_eq_false h2];have:=L.out.1;simp only [List.append_assoc,List.cons_append,List.nil_append] at this;exact this
  subst e1;clear J I L;go_wp2;go_ret;exact ⟨by simp;omega,HF.out⟩
end Go.Proofs.YtjlofobnmjompaaGreatDoor.Wd
