/- The code's Do, whatever it is asked. · T -/
import Derived.Test.YtjlofobnmjompaaGreatDoorP28
import Derived.Test.YtjlofobnmjompaaGreatDoorP29
set_option linter.unusedVariables false
set_option linter.unusedSimpArgs false
set_option maxHeartbeats 16000000
set_option maxRecDepth 16000
namespace Go.Proofs.YtjlofobnmjompaaGreatDoor.Wd
open Go.RowKit Fx
theorem t_R {op:Int} (h:¬ byP op) (D X E H:List Int) (k:Int):rkE op D X E H k=rkE op D X E H 0/\rkD op D X E H k=rkD op D X E H 0/\rkV op D X E H k=rkV op D X E H 0:=by
 have O:op≠5:=fun e=>h (.inl e);have M:op≠8:=fun e=>h (.inr (.inl e));have I:op≠11:=fun e=>h (.inr (.inr (.inl e)));have L:op≠12:=fun e=>h (.inr (.inr (.inr (.inl e))));have J:op≠13:=fun e=>h (.inr (.inr (.inr (.inr e))));unfold rkE rkD rkV;simp only [if_neg O,if_neg M,if_neg I,if_neg L,if_neg J];exact ⟨trivial,trivial,trivial⟩
theorem o_H (B E:Nat) (ns:List Nd) (hG:NodesG ns) (op a b k:Int) (U:InR op/\InR a/\InR b/\InR k) (w:World) (L:TapC w B E ns) (D:512<=ns.length):
  Calls Tryz.prog 83 #[.pointer (some ⟨E,0,none⟩),.int .i64 op,.int .i64 a,.int .i64 b,.int .i64 k] w fun e J=>e = .returned (.tuple #[.int .i64 (doR ns op a b k),.int .i64 (doE ns op a b k)])/\TapC J B E (doN ns op a b k)/\Below B w J/\Only SC w J/\Spar2 E w J:=by
 have H:Hid (TapC w B E ns):=L;have hf:decide (512<=ns.length)=true:=decide_eq_true D;have R:doE ns op a b k=2:=if_pos D;have O:doR ns op a b k=0:=if_neg fun h=>by have:=h.1.1;omega
 have M:doN ns op a b k=ns:=if_neg fun h=>by have:=h.1.1;omega
 rw [R,O,M];clear R O M D L U;go_enter Tryz.func83,Tryz.ntmps83;go_wp2_with fail
 refine (c_e B E ns true hf w H.out).mono ?_;rintro e w9 ⟨rfl,I⟩;have V:=I.symm;subst V;clear I;clear hf;go_wp2;exact bodyPost_ret (v:=.tuple #[.int .i64 0,.int .i64 2]) (by simp [results,Tryz.results83,go_sem]) rfl ⟨rfl,H.out,Below.refl _ _,Only.refl _ _,Spar2.of (Below.refl _ _)⟩
theorem q_R (B L:Nat) (ns:List Nd) (hG:NodesG ns) (op a b k:Int) (hk:InR op/\InR a/\InR b/\InR k) (w:World) (hT:TapC w B L ns) (M:ns.length < 512) (J:¬ ((0<=a/\a < (ns.length:Int))/\(d_A op->0<=b/\b < (ns.length:Int)))):
  Calls Tryz.prog 83 #[.pointer (some ⟨L,0,none⟩),.int .i64 op,.int .i64 a,.int .i64 b,.int .i64 k] w fun e w'=>e = .returned (.tuple #[.int .i64 (doR ns op a b k),.int .i64 (doE ns op a b k)])/\TapC w' B L (doN ns op a b k)/\Below B w w'/\Only SC w w'/\Spar2 L w w':=by
 have E:Hid (TapC w B L ns):=hT;have hf:decide (512<=ns.length)=false:=decide_eq_false (by omega);have V:¬ okD ns op a b:=fun h=>J h.2;have e1:doE ns op a b k=1:=(if_neg (by omega)).trans (if_neg V);have e2:doR ns op a b k=0:=if_neg fun h=>V h.1.2;have e3:doN ns op a b k=ns:=if_neg fun h=>V h.1.2;rw [e1,e2,e3];clear e1 e2 e3 hT hk V M;by_cases R:0<=a/\a < (ns.length:Int)
 ·have O:d_A op/\¬ (0<=b/\b < (ns.length:Int)):=by
   by_cases O:d_A op
   ·exact ⟨O,fun hb=>J ⟨R,fun _=>hb⟩⟩
   ·exact absurd ⟨R,fun h=>absurd h O⟩ J
  have hq:decide (d_A op)=true:=decide_eq_true O.1;have hb:decide (0<=b/\b < (ns.length:Int))=false:=decide_eq_false O.2;have H:decide (0<=a/\a < (ns.length:Int))=true:=decide_eq_true R;clear O R J;go_enter Tryz.func83,Tryz.ntmps83;go_wp2_with fail
  refine (c_e B L ns false hf w E.out).mono ?_;rintro e U ⟨rfl,D⟩;have I:=D.symm;subst I;clear D;go_wp2_with fail
  refine (c_R B L ns a true H w E.out).mono ?_;rintro e U ⟨rfl,D⟩;have I:=D.symm;subst I;clear D;go_wp2_with fail
  refine (f_L op true hq w).mono ?_;rintro e U ⟨rfl,D⟩;have I:=D.symm;subst I;clear D;go_wp2_with fail
  refine (c_R B L ns b false hb w E.out).mono ?_;rintro e U ⟨rfl,D⟩;have I:=D.symm;subst I;clear D;clear hf hq hb H;go_wp2;exact bodyPost_ret (v:=.tuple #[.int .i64 0,.int .i64 1]) (by simp [results,Tryz.results83,go_sem]) rfl ⟨rfl,E.out,Below.refl _ _,Only.refl _ _,Spar2.of (Below.refl _ _)⟩
 ·have H:decide (0<=a/\a < (ns.length:Int))=false:=decide_eq_false R;clear R J;go_enter Tryz.func83,Tryz.ntmps83;go_wp2_with fail
  refine (c_e B L ns false hf w E.out).mono ?_;rintro e U ⟨rfl,D⟩;have I:=D.symm;subst I;clear D;go_wp2_with fail
  refine (c_R B L ns a false H w E.out).mono ?_;rintro e U ⟨rfl,D⟩;have I:=D.symm;subst I;clear D;clear hf H;go_wp2;exact bodyPost_ret (v:=.tuple #[.int .i64 0,.int .i64 1]) (by simp [results,Tryz.results83,go_sem]) rfl ⟨rfl,E.out,Below.refl _ _,Only.refl _ _,Spar2.of (Below.refl _ _)⟩
theorem p_n (B tb:Nat) (ns:List Nd) (hG:NodesG ns) (op a b k:Int) (ak:RkC op) (hk:InR op/\InR a/\InR b/\InR k) (w:World) (hT:TapC w B tb ns) (ah:Hid (Tz w)):
  Calls Tryz.prog 83 #[.pointer (some ⟨tb,0,none⟩),.int .i64 op,.int .i64 a,.int .i64 b,.int .i64 k] w fun e w'=>e = .returned (.tuple #[.int .i64 (doR ns op a b k),.int .i64 (doE ns op a b k)])/\TapC w' B tb (doN ns op a b k)/\Below B w w'/\Only SC w w'/\Spar2 tb w w':=by
 by_cases hf:512<=ns.length
 ·exact o_H B tb ns hG op a b k hk w hT hf
 by_cases J:(0<=a/\a < (ns.length:Int))/\(d_A op->0<=b/\b < (ns.length:Int))
 case neg=>exact q_R B tb ns hG op a b k hk w hT (by omega) J
 obtain ⟨O,rfl⟩:∃ i:Nat,a=i:=⟨a.toNat,by have:=J.1;omega⟩
 have aj:O < ns.length:=by have:=J.1;omega
 obtain ⟨H,M⟩:∃ nd,ns[O]?=some nd:=⟨_,List.getElem?_eq_getElem aj⟩
 have ao:c_r H.D H.X:=hG H (f_K M);have ad:=k_K M;obtain ⟨E,eE⟩:∃ E,rqE op H.D H.X (dD ns op b) (dX ns op b) k=E:=⟨_,rfl⟩
 obtain ⟨D,eD⟩:∃ E,rqD op H.D H.X (dD ns op b) (dX ns op b) k=E:=⟨_,rfl⟩
 obtain ⟨V,eV⟩:∃ E,rqV op H.D H.X (dD ns op b) (dX ns op b) k=E:=⟨_,rfl⟩
 have ac:rkE op H.D H.X (dD ns op b) (dX ns op b) k=rkE op H.D H.X (dD ns op b) (dX ns op b) (dK op k)/\rkD op H.D H.X (dD ns op b) (dX ns op b) k=rkD op H.D H.X (dD ns op b) (dX ns op b) (dK op k)/\rkV op H.D H.X (dD ns op b) (dX ns op b) k=rkV op H.D H.X (dD ns op b) (dX ns op b) (dK op k):=by
  unfold dK;by_cases h:byP op
  ·rw [if_pos h];exact ⟨rfl,rfl,rfl⟩
  ·rw [if_neg h];exact t_R h _ _ _ _ _
 have ab:doE ns op (O:Int) b k=E:=by
  refine (if_neg (by omega)).trans ?_;rw [<- eE];unfold rqE;by_cases L:2<=op/\op<=14
  ·rw [if_pos L,if_pos ⟨L,J⟩];unfold dE;rw [ad,ac.1]
  ·rw [if_neg L,if_neg fun h=>L h.1]
 have ag:E=0->2<=op/\op<=14:=fun h=>by
  by_cases L:2<=op/\op<=14
  ·exact L
  ·rw [<- eE] at h;unfold rqE at h;rw [if_neg L] at h;cases h
 rw [ab];obtain ⟨RR,eR⟩:∃ R,doR ns op (O:Int) b k=R:=⟨_,rfl⟩
 obtain ⟨NS,eS⟩:∃ R,doN ns op (O:Int) b k=R:=⟨_,rfl⟩
 rw [eR,eS]
 have an:(E=0->RR=(ns.length:Int)/\NS=ns++[⟨op,(O:Int),dB op b,dK op k,D,V⟩])/\(E≠0->RR=0/\NS=ns):=by
  rw [<- eR,<- eS];refine ⟨fun h=>?_,fun h=>?_⟩
  ·have L:=ag h;have hP:doP ns op (O:Int) b k:=⟨⟨by omega,L,J⟩,by rw [<- ab] at h;unfold doE at h;rw [if_neg hf,if_pos ⟨L,J⟩] at h;exact h⟩
   refine ⟨if_pos hP,(if_pos hP).trans ?_⟩;unfold dN;rw [ad,<- ac.2.1,<- ac.2.2,<- eD,<- eV];unfold rqD rqV;rw [if_pos L,if_pos L]
  ·have hP:¬ doP ns op (O:Int) b k:=fun h'=>h (by
    have I:=ab;unfold doE at I;rw [if_neg hf,if_pos h'.1.2] at I;rw [<- I];exact h'.2)
   exact ⟨if_neg hP,if_neg hP⟩
 have aa:ns.length < 512:=by omega
 have ae:RI (dD ns op b)/\RI (dX ns op b):=by
  unfold dD dX;by_cases I:d_A op
  ·rw [if_pos I,if_pos I];exact (hG.at (J.2 I).1 (J.2 I).2).2
  ·rw [if_neg I,if_neg I];exact ⟨fun y hy=>by simp at hy,fun y hy=>by simp at hy⟩
 refine r_8 B tb ns op O b k H M (dD ns op b) (dX ns op b) (dB op b) (dK op k) ?_ ?_ aa E D V RR NS an w hT ?_
 ·by_cases I:d_A op
  ·have hb:=J.2 I;obtain ⟨bi,rfl⟩:∃ i:Nat,b=i:=⟨b.toNat,by omega⟩
   obtain ⟨am,U⟩:∃ nd,ns[bi]?=some nd:=⟨_,List.getElem?_eq_getElem (by omega)⟩
   have af:=k_K U;exact .inl ⟨I,if_pos I,bi,am,rfl,U,(if_pos I).trans (by rw [af]),(if_pos I).trans (by rw [af])⟩
  ·exact .inr ⟨I,if_neg I,if_neg I,if_neg I⟩
 ·by_cases h3:byP op
  ·exact .inl ⟨h3,if_pos h3⟩
  ·exact .inr ⟨h3,if_neg h3⟩
 intro W pA qA pB qB nA cA mA eA nB cB mB eB hW g1 g2 g3 g4 g5;rw [<- eE,<- eD,<- eV];exact ak pA qA pB qB nA cA mA eA nB cB mB eB _ _ _ _ k hk.2.2.2 ao ae.1 ae.2 g3 W (Hid.up_tz ah hW) g1 g2 g4 g5
theorem d_D (B J:Nat) (ns:List Nd) (w:World) (H:TapC w B J ns):Calls Tryz.prog 40 #[.pointer (some ⟨J,0,none⟩)] w fun e V=>e = .returned (.int .i64 (ns.length:Int))/\V=w:=by
 have O:Hid (TapC w B J ns):=H;obtain ⟨pL,cL,U,E,R,M,D⟩:=Tap.head H;obtain ⟨N,L⟩:∃ N,ns.length=N:=⟨_,rfl⟩
 rw [L] at E R D;have I:=(b_G E).1;have hz:=a_i E;rw [L];clear H O E R M D L;go_enter Tryz.func40,Tryz.ntmps40;go_wp2;go_ret;exact ⟨rfl,rfl⟩
/-- What one step makes of the nodes: an error, its number, the nodes. -/
def stE (f:Int) (ns:List Nd) (st:Sp):Int:=if st.op=1 then f_I ns st.D st.X else doE ns st.op (f+st.a) (f+st.b) st.k
def stR (f:Int) (ns:List Nd) (st:Sp):Int:=if st.op=1 then f_J ns st.D st.X else doR ns st.op (f+st.a) (f+st.b) st.k
def stN (f:Int) (ns:List Nd) (st:Sp):List Nd:=if st.op=1 then c_Q ns st.D st.X else doN ns st.op (f+st.a) (f+st.b) st.k
/-- A step that a plan may hold. -/
structure SpOk (st:Sp):Prop where
 ra:0<=st.a/\st.a<=1000
 rb:0<=st.b/\st.b<=1000
 rk:0<=st.k/\st.k<=1000
 rop:1<=st.op/\st.op<=14
 rD:RI st.D
 rX:RI st.X
theorem q_S (B I:Nat) (ns:List Nd) (hG:NodesG ns) (st:Sp) (ag:SpOk st) (aa:st.op≠1->RkC st.op) (f:Int) (hf:0<=f/\f<=1000) (p:Option Addr) (n c:Nat) (p2:Option Addr) (n2 c2:Nat) (w:World) (hT:TapC w B I ns) (af:Hid (Tz w)) (h1:Nums .i64 w (.slice p n c) st.D) (h2:Nums .i64 w (.slice p2 n2 c2) st.X):
  Calls Tryz.prog 61 #[.pointer (some ⟨I,0,none⟩),.agg #[.int .i64 st.op,.int .i64 st.a,.int .i64 st.b,.int .i64 st.k,.slice p n c,.slice p2 n2 c2,.bool st.par],.int .i64 f] w fun e J=>e = .returned (.tuple #[.int .i64 (stR f ns st),.int .i64 (stE f ns st)])/\TapC J B I (stN f ns st)/\Below B w J/\Only SC w J/\Spar2 I w J:=by
 obtain ⟨op,a,b,k,D,X,ab⟩:=st;obtain ⟨ra,rb,rk,ae,rD,rX⟩:=ag;simp only [] at ra rb rk ae rD rX h1 h2 aa ⊢;obtain ⟨R,eR⟩:∃ R,stR f ns ⟨op,a,b,k,D,X,ab⟩=R:=⟨_,rfl⟩
 obtain ⟨E,eE⟩:∃ R,stE f ns ⟨op,a,b,k,D,X,ab⟩=R:=⟨_,rfl⟩
 obtain ⟨NS,eN⟩:∃ R,stN f ns ⟨op,a,b,k,D,X,ab⟩=R:=⟨_,rfl⟩
 rw [eR,eE,eN]
 have ac:B<=w.heap.size:=by
  obtain ⟨hb,v,xs,hv,_⟩:=hT;exact Nat.le_trans hb (Nat.le_of_lt (a_i hv))
 have HZ:Hid (B<=w.heap.size):=ac;by_cases h0:op=1
 ·subst h0
  have cl:Hid (∀ W,Below w.heap.size w W->Calls Tryz.prog 82 #[.pointer (some ⟨I,0,none⟩),.agg #[.slice p n c,.slice p2 n2 c2]] W fun e J=>e = .returned (.tuple #[.int .i64 R,.int .i64 E])/\TapC J B I NS/\Below B W J/\Only SC W J/\Spar2 I W J):=fun W hW=>by
   have:=j_Y B I ns hG p p2 n c n2 c2 D X rD rX W (hT.up hW) (h1.up hW) (h2.up hW);rw [<- eR,<- eE,<- eN];exact this
  clear eR eE eN hT h1 h2 aa rD rX ac;go_enter Tryz.func61,Tryz.ntmps61;go_wp2_with fail
  generalize M:World.alloc _ _=W0;have H:Hid (Below w.heap.size w W0):=by rw [<- M];exact a_b w _
  clear M;refine (cl.out W0 H.out).mono ?_;rintro e w1 ⟨rfl,L,V,O,U⟩;have HF:Hid (TapC w1 B I NS/\Below B w w1/\Only SC w w1/\Spar2 I w w1):=⟨L,(H.out.mono HZ.out).trans V,(Only.of H.out).trans O,Spar2.trans (Spar2.of H.out) U H.out.size⟩
  clear L V O U cl;go_wp2;go_ret2;exact ⟨rfl,HF.out⟩
 ·have aj:(op==1)=false:=by simpa using h0
  obtain ⟨fa,ah⟩:∃ x,f+a=x:=⟨_,rfl⟩
  obtain ⟨fb,ad⟩:∃ x,f+b=x:=⟨_,rfl⟩
  have cd:Hid (∀ W,Below w.heap.size w W->Calls Tryz.prog 83 #[.pointer (some ⟨I,0,none⟩),.int .i64 op,.int .i64 fa,.int .i64 fb,.int .i64 k] W fun e J=>e = .returned (.tuple #[.int .i64 R,.int .i64 E])/\TapC J B I NS/\Below B W J/\Only SC W J/\Spar2 I W J):=fun W hW=>by
   have:=p_n B I ns hG op fa fb k (aa h0) (by unfold InR;omega) W (hT.up hW) (Hid.up_tz af hW);rw [<- eR,<- eE,<- eN];unfold stR stE stN;simp only [if_neg h0];rw [ah,ad];exact this
  have ai:0<=fa/\fa<=2000:=by omega
  have ak:0<=fb/\fb<=2000:=by omega
  clear eR eE eN hT h1 h2 aa rD rX ac;go_enter Tryz.func61,Tryz.ntmps61;go_wp2_with fail
  generalize M:World.alloc _ _=W0;have H:Hid (Below w.heap.size w W0):=by rw [<- M];exact a_b w _
  clear M;refine (cd.out W0 H.out).mono ?_;rintro e w1 ⟨rfl,L,V,O,U⟩;have HF:Hid (TapC w1 B I NS/\Below B w w1/\Only SC w w1/\Spar2 I w w1):=⟨L,(H.out.mono HZ.out).trans V,(Only.of H.out).trans O,Spar2.trans (Spar2.of H.out) U H.out.size⟩
  clear L V O U cd;go_wp2;go_ret2;exact ⟨rfl,HF.out⟩
end Go.Proofs.YtjlofobnmjompaaGreatDoor.Wd
namespace Go.Proofs.YtjlofobnmjompaaGreatDoor.Wd
open Go.RowKit
theorem Kept.none (B:Nat) (W:World):Kept B W (.slice none 0 0) []:=fun _ _=>.inl ⟨rfl,rfl⟩
theorem Kept.cut {B:Nat} {W:World} {p:Option Addr} {n c i j:Nat} {l:List Int} (h:Kept B W (.slice p n c) l) (D:i<=j) (H:j<=n) (J:l.length=n) (E:n<=c):Kept B W (sliced p i j c 1) ((l.drop i).take (j - i)):=fun W' I=>g_R D H J E (h W' I)
theorem m_X (B E:Nat) (sts:List Sp) (rest:List Int) (ac:sts.length<=200) (d:List Int) (ae:k_P d) (m:Nat) (hm:a_t d=(m:Int)) (ai:m<=rest.length) (M:rest.length<=1073741824) (p:Option Addr) (n c:Nat) (I w:World) (hP:PlanO B I w E sts rest) (h1:Kept B I (.slice p n c) d):
  Calls Tryz.prog 80 #[.pointer (some ⟨E,0,none⟩),.slice p n c] w fun e w'=>e = .returned (.int .i64 (sts.length:Int))/\PlanO B I w' E (sts++[⟨1,0,0,0,d,rest.take m,true⟩]) (rest.drop m)/\Rn B w w':=by
 have HP:Hid (PlanO B I w E sts rest):=hP;obtain ⟨V,U,pS,am,cS,pR,H,D,xs,hb,ho,hn,hc,hk,R,aa⟩:=hP;have ah:B<=w.heap.size:=Nat.le_trans V (Nat.le_of_lt (a_i hb));have cs:=d_j _ d ae w (h1 w U.r4);rw [hm] at cs;obtain ⟨N,eN⟩:∃ N,sts.length=N:=⟨_,rfl⟩
 have HN:Hid (sts.length=N/\N<=200):=⟨eN,by omega⟩
 rw [eN] at ho hn ⊢;subst hn;obtain ⟨⟨x0,y0⟩,⟨x1,y1⟩⟩:=e_n hb;have J:=r_y pR H D m (by omega);have O:=r_x pR H D m (by omega);obtain ⟨qh,af⟩:=d_b pR 0 m D;obtain ⟨ql,ad⟩:=d_b pR m H D;have kh:=hk.cut (Nat.zero_le m) (by omega) aa R;have kl:=hk.cut (show m<=H by omega) (Nat.le_refl _) aa R;rw [List.drop_zero,Nat.sub_zero] at kh;rw [List.take_of_length_le (by rw [List.length_drop];omega)] at kl;rw [af] at J kh;rw [ad] at O kl;simp only [Nat.sub_zero] at J kh;have HK:Hid (Kept B I (.slice qh m D) (rest.take m)/\Kept B I (.slice ql (H - m) (D - m)) (rest.drop m)/\Kept B I (.slice p n c) d):=⟨kh,kl,h1⟩
 have HW:Hid (B<=E/\B<=w.heap.size/\w.heap[E]?=some (.cells #[.slice pS N cS,.slice pR H D] 126 (0,0))/\w.ownsRow B 129 7 (.slice pS N cS) N xs/\StsC B I sts xs/\(rest.drop m).length=H - m/\H - m<=D - m/\Rn B I w):=⟨V,ah,hb,ho,hc,by rw [List.length_drop];omega,by omega,U⟩
 have ak:=a_g x0;clear V hb ho hc hk R aa ah kh kl h1 U af ad hm ai M ac ae eN;go_enter Tryz.func80,Tryz.ntmps80;go_wp2_with fail
 refine cs.mono ?_;rintro e L ⟨rfl,rfl⟩;clear cs
 have HV:Hid (PlanO B I ((L.setCell ⟨E,1,none⟩ (.slice ql (H - m) (D - m))).alloc (.cells #[.slice p n c,.slice qh m D] 64)) E sts (rest.drop m)/\Rn B L ((L.setCell ⟨E,1,none⟩ (.slice ql (H - m) (D - m))).alloc (.cells #[.slice p n c,.slice qh m D] 64))):=by
  obtain ⟨h1,h2,h3,h4,h5,h6,h7,h8⟩:=HW.out;have hR:Rn B L (L.setCell ⟨E,1,none⟩ (.slice ql (H - m) (D - m))):=⟨(Below.refl _ _).setCell (p:=⟨E,1,none⟩) h1 _,Only.set h3 (by simp)⟩
  have hv:(L.setCell ⟨E,1,none⟩ (.slice ql (H - m) (D - m))).heap[E]?=some (.cells #[.slice pS N cS,.slice ql (H - m) (D - m)] 126 (0,0)):=by
   rw [a_n h3];rfl
  have aj:PlanO B I (L.setCell ⟨E,1,none⟩ (.slice ql (H - m) (D - m))) E sts (rest.drop m):=⟨h1,h8.trans hR,_,_,_,_,_,_,_,hv,by rw [HN.out.1];exact a_z (S:=[126]) h4 (Only.set h3 (by simp)) (by decide),HN.out.1,h5,HK.out.2.1,h7,h6⟩
  exact ⟨aj.up (a_b _ _),hR.trans (Rn.of (Nat.le_trans h2 hR.size) (a_b _ _))⟩
 go_wp2_with fail
 have ca:=g_6 B E sts (rest.drop m) (by rw [HN.out.1];exact HN.out.2) ⟨1,0,0,0,d,rest.take m,true⟩ p n c qh m D I _ HV.out.1 HK.out.2.2 HK.out.1;rw [HN.out.1] at ca;refine ca.mono ?_;rintro e w2 ⟨rfl,ag,ab⟩;have HF:Hid (PlanO B I w2 E (sts++[⟨1,0,0,0,d,rest.take m,true⟩]) (rest.drop m)/\Rn B L w2):=⟨ag,HV.out.2.trans ab⟩
 clear ca ag ab HV x0 x1 y0 y1;go_wp2;go_ret;exact ⟨rfl,HF.out⟩
/-- A step that is no Leaf. -/
abbrev spD (op a b k:Int):Sp:=⟨op,a,b,k,[],[],false⟩
theorem c_h (B E N:Nat) (sts:List Sp) (rest:List Int) (L:sts.length=N) (D:N<=200) (op a b k:Int) (H w:World) (R:PlanO B H w E sts rest):
  Calls Tryz.prog 59 #[.pointer (some ⟨E,0,none⟩),.agg #[.int .i64 op,.int .i64 a,.int .i64 b,.int .i64 k,.slice none 0 0,.slice none 0 0,.bool false]] w fun e I=>e = .returned (.int .i64 (N:Int))/\Hid (PlanO B H I E (sts++[spD op a b k]) rest/\(sts++[spD op a b k]).length=N+1/\Rn B w I):=by
 subst L;refine (g_6 B E sts rest D (spD op a b k) none 0 0 none 0 0 H w R (Kept.none _ _) (Kept.none _ _)).mono ?_;rintro e I ⟨M,J,O⟩;exact ⟨M,J,by simp,O⟩
/-- What dense lays: its steps, and the last one's number. -/
def n_v (two:Bool) (N:Nat) (m r l:Int):List Sp:=if two then [spD 14 l 0 0,spD 4 m (N:Int) 0,spD 8 ((N+1:Nat):Int) 0 1,spD 2 ((N+2:Nat):Int) r 0] else [spD 4 m l 0,spD 8 (N:Int) 0 1,spD 2 ((N+1:Nat):Int) r 0]
def r_c (two:Bool) (N:Nat):Nat:=if two then N+3 else N+2
theorem m_Y (B D N:Nat) (sts:List Sp) (rest:List Int) (hN:sts.length=N) (aa:N<=190) (m r l:Int) (p:Option Addr) (n c:Nat) (E w:World) (hP:PlanO B E w D sts rest):
  Calls Tryz.prog 81 #[.pointer (some ⟨D,0,none⟩),.int .i64 m,.int .i64 r,.slice p n c,.int .i64 l] w fun e w'=>e = .returned (.int .i64 (r_c (decide (n=2)) N:Int))/\PlanO B E w' D (sts++n_v (decide (n=2)) N m r l) rest/\Rn B w w':=by
 have U:Hid (PlanO B E w D sts rest/\sts.length=N/\Rn B w w):=⟨hP,hN,Rn.refl _ _⟩
 obtain ⟨R,eR⟩:∃ R,r_c (decide (n=2)) N=R:=⟨_,rfl⟩
 obtain ⟨S,eS⟩:∃ S,sts++n_v (decide (n=2)) N m r l=S:=⟨_,rfl⟩
 have O:Hid (r_c (decide (n=2)) N=R/\sts++n_v (decide (n=2)) N m r l=S):=⟨eR,eS⟩
 rw [eR,eS];clear hP eR eS hN;go_enter Tryz.func81,Tryz.ntmps81;by_cases h2:n=2
 ·subst h2;go_wp2_with fail
  refine (c_h B D N _ rest U.out.2.1 (by omega) 14 l 0 0 E w U.out.1).mono ?_;rintro e w1 ⟨rfl,M⟩;go_wp2_with fail
  refine (c_h B D (N+1) _ rest M.out.2.1 (by omega) 4 m (N:Int) 0 E w1 M.out.1).mono ?_;rintro e w2 ⟨rfl,I⟩;go_wp2_with fail
  refine (c_h B D (N+1+1) _ rest I.out.2.1 (by omega) 8 ((N+1:Nat):Int) 0 1 E w2 I.out.1).mono ?_;rintro e w3 ⟨rfl,H⟩;go_wp2_with fail
  refine (c_h B D (N+1+1+1) _ rest H.out.2.1 (by omega) 2 ((N+2:Nat):Int) r 0 E w3 H.out.1).mono ?_;rintro e L ⟨rfl,J⟩;have e1:R=N+3:=by rw [<- O.out.1];rfl
  have V:Hid (PlanO B E L D S rest/\Rn B w L):=by
   refine ⟨?_,((M.out.2.2.trans I.out.2.2).trans H.out.2.2).trans J.out.2.2⟩;rw [<- O.out.2];have:=J.out.1;simp only [List.append_assoc,List.cons_append,List.nil_append] at this;exact this
  subst e1;clear M I H J;go_wp2;go_ret;exact ⟨by simp;omega,V.out⟩
 ·have ab:((n:Int)==2)=false:=by simpa using (show (n:Int)≠2 by omega)
  go_wp2_with fail
  refine (c_h B D N _ rest U.out.2.1 (by omega) 4 m l 0 E w U.out.1).mono ?_;rintro e w2 ⟨rfl,I⟩;go_wp2_with fail
  refine (c_h B D (N+1) _ rest I.out.2.1 (by omega) 8 (N:Int) 0 1 E w2 I.out.1).mono ?_;rintro e w3 ⟨rfl,H⟩;go_wp2_with fail
  refine (c_h B D (N+1+1) _ rest H.out.2.1 (by omega) 2 ((N+1:Nat):Int) r 0 E w3 H.out.1).mono ?_;rintro e L ⟨rfl,J⟩;have e1:R=N+2:=by rw [<- O.out.1,decide_eq_false h2];rfl
  have V:Hid (PlanO B E L D S rest/\Rn B w L):=by
   refine ⟨?_,(I.out.2.2.trans H.out.2.2).trans J.out.2.2⟩;rw [<- O.out.2,decide_eq_false h2];have:=J.out.1;simp only [List.append_assoc,List.cons_append,List.nil_append] at this;exact this
  subst e1;clear I H J;go_wp2;go_ret;exact ⟨by simp;omega,V.out⟩
end Go.Proofs.YtjlofobnmjompaaGreatDoor.Wd
