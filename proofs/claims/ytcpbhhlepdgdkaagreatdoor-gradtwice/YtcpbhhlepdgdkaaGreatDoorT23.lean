/- The code's Do, whatever it is asked. · T -/
import Derived.Test.YtcpbhhlepdgdkaaGreatDoorT22
set_option linter.unusedVariables false
set_option linter.unusedSimpArgs false
set_option maxHeartbeats 16000000
set_option maxRecDepth 16000
namespace Go.Proofs.YtcpbhhlepdgdkaaGreatDoor.Wd
open Go.RowKit Fx
theorem t_9 {op:Int} (h:¬ byP op) (D X H E:List Int) (k:Int):rkE op D X H E k=rkE op D X H E 0/\rkD op D X H E k=rkD op D X H E 0/\rkV op D X H E k=rkV op D X H E 0:=by
 have O:op≠5:=fun e=>h (.inl e);have M:op≠8:=fun e=>h (.inr (.inl e));have I:op≠11:=fun e=>h (.inr (.inr (.inl e)));have J:op≠12:=fun e=>h (.inr (.inr (.inr (.inl e))));have L:op≠13:=fun e=>h (.inr (.inr (.inr (.inr e))));unfold rkE rkD rkV;simp only [if_neg O,if_neg M,if_neg I,if_neg J,if_neg L];exact ⟨trivial,trivial,trivial⟩
theorem o_P (B E:Nat) (ns:List Nd) (hG:NodesG ns) (op a b k:Int) (V:InR op/\InR a/\InR b/\InR k) (w:World) (M:TapC w B E ns) (D:512<=ns.length):
  Calls Tryz.prog 72 #[.pointer (some ⟨E,0,none⟩),.int .i64 op,.int .i64 a,.int .i64 b,.int .i64 k] w fun e J=>e = .returned (.tuple #[.int .i64 (doR ns op a b k),.int .i64 (doE ns op a b k)])/\TapC J B E (doN ns op a b k)/\Below B w J/\Only SC w J/\Spar2 E w J:=by
 have H:Hid (TapC w B E ns):=M;have hf:decide (512<=ns.length)=true:=decide_eq_true D;have L:doE ns op a b k=2:=if_pos D;have R:doR ns op a b k=0:=if_neg fun h=>by have:=h.1.1;omega
 have O:doN ns op a b k=ns:=if_neg fun h=>by have:=h.1.1;omega
 rw [L,R,O];clear L R O D M V;go_enter Tryz.func72,Tryz.ntmps72;go_wp2_with fail
 refine (c_i B E ns true hf w H.out).mono ?_;rintro e w9 ⟨rfl,I⟩;have U:=I.symm;subst U;clear I;clear hf;go_wp2;exact bodyPost_ret (v:=.tuple #[.int .i64 0,.int .i64 2]) (by simp [results,Tryz.results72,go_sem]) rfl ⟨rfl,H.out,Below.refl _ _,Only.refl _ _,Spar2.of (Below.refl _ _)⟩
theorem q_6 (B L:Nat) (ns:List Nd) (hG:NodesG ns) (op a b k:Int) (hk:InR op/\InR a/\InR b/\InR k) (w:World) (hT:TapC w B L ns) (M:ns.length < 512) (I:¬ ((0<=a/\a < (ns.length:Int))/\(d_D op->0<=b/\b < (ns.length:Int)))):
  Calls Tryz.prog 72 #[.pointer (some ⟨L,0,none⟩),.int .i64 op,.int .i64 a,.int .i64 b,.int .i64 k] w fun e V=>e = .returned (.tuple #[.int .i64 (doR ns op a b k),.int .i64 (doE ns op a b k)])/\TapC V B L (doN ns op a b k)/\Below B w V/\Only SC w V/\Spar2 L w V:=by
 have E:Hid (TapC w B L ns):=hT;have hf:decide (512<=ns.length)=false:=decide_eq_false (by omega);have ho:¬ okD ns op a b:=fun h=>I h.2;have e1:doE ns op a b k=1:=(if_neg (by omega)).trans (if_neg ho);have e2:doR ns op a b k=0:=if_neg fun h=>ho h.1.2;have e3:doN ns op a b k=ns:=if_neg fun h=>ho h.1.2;rw [e1,e2,e3];clear e1 e2 e3 hT hk ho M;by_cases R:0<=a/\a < (ns.length:Int)
 ·have O:d_D op/\¬ (0<=b/\b < (ns.length:Int)):=by
   by_cases O:d_D op
   ·exact ⟨O,fun hb=>I ⟨R,fun _=>hb⟩⟩
   ·exact absurd ⟨R,fun h=>absurd h O⟩ I
  have hq:decide (d_D op)=true:=decide_eq_true O.1;have hb:decide (0<=b/\b < (ns.length:Int))=false:=decide_eq_false O.2;have J:decide (0<=a/\a < (ns.length:Int))=true:=decide_eq_true R;clear O R I;go_enter Tryz.func72,Tryz.ntmps72;go_wp2_with fail
  refine (c_i B L ns false hf w E.out).mono ?_;rintro e U ⟨rfl,D⟩;have H:=D.symm;subst H;clear D;go_wp2_with fail
  refine (c_T B L ns a true J w E.out).mono ?_;rintro e U ⟨rfl,D⟩;have H:=D.symm;subst H;clear D;go_wp2_with fail
  refine (f_Q op true hq w).mono ?_;rintro e U ⟨rfl,D⟩;have H:=D.symm;subst H;clear D;go_wp2_with fail
  refine (c_T B L ns b false hb w E.out).mono ?_;rintro e U ⟨rfl,D⟩;have H:=D.symm;subst H;clear D;clear hf hq hb J;go_wp2;exact bodyPost_ret (v:=.tuple #[.int .i64 0,.int .i64 1]) (by simp [results,Tryz.results72,go_sem]) rfl ⟨rfl,E.out,Below.refl _ _,Only.refl _ _,Spar2.of (Below.refl _ _)⟩
 ·have J:decide (0<=a/\a < (ns.length:Int))=false:=decide_eq_false R;clear R I;go_enter Tryz.func72,Tryz.ntmps72;go_wp2_with fail
  refine (c_i B L ns false hf w E.out).mono ?_;rintro e U ⟨rfl,D⟩;have H:=D.symm;subst H;clear D;go_wp2_with fail
  refine (c_T B L ns a false J w E.out).mono ?_;rintro e U ⟨rfl,D⟩;have H:=D.symm;subst H;clear D;clear hf J;go_wp2;exact bodyPost_ret (v:=.tuple #[.int .i64 0,.int .i64 1]) (by simp [results,Tryz.results72,go_sem]) rfl ⟨rfl,E.out,Below.refl _ _,Only.refl _ _,Spar2.of (Below.refl _ _)⟩
theorem p_z (B tb:Nat) (ns:List Nd) (hG:NodesG ns) (op a b k:Int) (ah:RkC op) (hk:InR op/\InR a/\InR b/\InR k) (w:World) (hT:TapC w B tb ns) (aj:Hid (Tz w)):
  Calls Tryz.prog 72 #[.pointer (some ⟨tb,0,none⟩),.int .i64 op,.int .i64 a,.int .i64 b,.int .i64 k] w fun e w'=>e = .returned (.tuple #[.int .i64 (doR ns op a b k),.int .i64 (doE ns op a b k)])/\TapC w' B tb (doN ns op a b k)/\Below B w w'/\Only SC w w'/\Spar2 tb w w':=by
 by_cases hf:512<=ns.length
 ·exact o_P B tb ns hG op a b k hk w hT hf
 by_cases J:(0<=a/\a < (ns.length:Int))/\(d_D op->0<=b/\b < (ns.length:Int))
 case neg=>exact q_6 B tb ns hG op a b k hk w hT (by omega) J
 obtain ⟨O,rfl⟩:∃ i:Nat,a=i:=⟨a.toNat,by have:=J.1;omega⟩
 have an:O < ns.length:=by have:=J.1;omega
 obtain ⟨H,M⟩:∃ nd,ns[O]?=some nd:=⟨_,List.getElem?_eq_getElem an⟩
 have ak:c_u H.D H.X:=hG H (f_P M);have ad:=k_Q M;obtain ⟨E,eE⟩:∃ E,rqE op H.D H.X (dD ns op b) (dX ns op b) k=E:=⟨_,rfl⟩
 obtain ⟨D,eD⟩:∃ E,rqD op H.D H.X (dD ns op b) (dX ns op b) k=E:=⟨_,rfl⟩
 obtain ⟨V,eV⟩:∃ E,rqV op H.D H.X (dD ns op b) (dX ns op b) k=E:=⟨_,rfl⟩
 have ac:rkE op H.D H.X (dD ns op b) (dX ns op b) k=rkE op H.D H.X (dD ns op b) (dX ns op b) (dK op k)/\rkD op H.D H.X (dD ns op b) (dX ns op b) k=rkD op H.D H.X (dD ns op b) (dX ns op b) (dK op k)/\rkV op H.D H.X (dD ns op b) (dX ns op b) k=rkV op H.D H.X (dD ns op b) (dX ns op b) (dK op k):=by
  unfold dK;by_cases h:byP op
  ·rw [if_pos h];exact ⟨rfl,rfl,rfl⟩
  ·rw [if_neg h];exact t_9 h _ _ _ _ _
 have aa:doE ns op (O:Int) b k=E:=by
  refine (if_neg (by omega)).trans ?_;rw [<- eE];unfold rqE;by_cases L:2<=op/\op<=14
  ·rw [if_pos L,if_pos ⟨L,J⟩];unfold dE;rw [ad,ac.1]
  ·rw [if_neg L,if_neg fun h=>L h.1]
 have af:E=0->2<=op/\op<=14:=fun h=>by
  by_cases L:2<=op/\op<=14
  ·exact L
  ·rw [<- eE] at h;unfold rqE at h;rw [if_neg L] at h;cases h
 rw [aa];obtain ⟨RR,eR⟩:∃ R,doR ns op (O:Int) b k=R:=⟨_,rfl⟩
 obtain ⟨NS,eS⟩:∃ R,doN ns op (O:Int) b k=R:=⟨_,rfl⟩
 rw [eR,eS]
 have am:(E=0->RR=(ns.length:Int)/\NS=ns++[⟨op,(O:Int),dB op b,dK op k,D,V⟩])/\(E≠0->RR=0/\NS=ns):=by
  rw [<- eR,<- eS];refine ⟨fun h=>?_,fun h=>?_⟩
  ·have L:=af h;have hP:doP ns op (O:Int) b k:=⟨⟨by omega,L,J⟩,by rw [<- aa] at h;unfold doE at h;rw [if_neg hf,if_pos ⟨L,J⟩] at h;exact h⟩
   refine ⟨if_pos hP,(if_pos hP).trans ?_⟩;unfold dN;rw [ad,<- ac.2.1,<- ac.2.2,<- eD,<- eV];unfold rqD rqV;rw [if_pos L,if_pos L]
  ·have hP:¬ doP ns op (O:Int) b k:=fun h'=>h (by
    have I:=aa;unfold doE at I;rw [if_neg hf,if_pos h'.1.2] at I;rw [<- I];exact h'.2)
   exact ⟨if_neg hP,if_neg hP⟩
 have ab:ns.length < 512:=by omega
 have ag:RI (dD ns op b)/\RI (dX ns op b):=by
  unfold dD dX;by_cases I:d_D op
  ·rw [if_pos I,if_pos I];exact (hG.at (J.2 I).1 (J.2 I).2).2
  ·rw [if_neg I,if_neg I];exact ⟨fun y hy=>by simp at hy,fun y hy=>by simp at hy⟩
 refine s_n B tb ns op O b k H M (dD ns op b) (dX ns op b) (dB op b) (dK op k) ?_ ?_ ab E D V RR NS am w hT ?_
 ·by_cases I:d_D op
  ·have hb:=J.2 I;obtain ⟨bi,rfl⟩:∃ i:Nat,b=i:=⟨b.toNat,by omega⟩
   obtain ⟨ao,U⟩:∃ nd,ns[bi]?=some nd:=⟨_,List.getElem?_eq_getElem (by omega)⟩
   have ae:=k_Q U;exact .inl ⟨I,if_pos I,bi,ao,rfl,U,(if_pos I).trans (by rw [ae]),(if_pos I).trans (by rw [ae])⟩
  ·exact .inr ⟨I,if_neg I,if_neg I,if_neg I⟩
 ·by_cases h3:byP op
  ·exact .inl ⟨h3,if_pos h3⟩
  ·exact .inr ⟨h3,if_neg h3⟩
 intro W pA qA pB qB nA cA mA eA nB cB mB eB hW g1 g2 g3 g4 g5;rw [<- eE,<- eD,<- eV];exact ah pA qA pB qB nA cA mA eA nB cB mB eB _ _ _ _ k hk.2.2.2 ak ag.1 ag.2 g3 W (Hid.up_tz aj hW) g1 g2 g4 g5
theorem d_G (B O:Nat) (ns:List Nd) (w:World) (H:TapC w B O ns):Calls Tryz.prog 36 #[.pointer (some ⟨O,0,none⟩)] w fun e V=>e = .returned (.int .i64 (ns.length:Int))/\V=w:=by
 have M:Hid (TapC w B O ns):=H;obtain ⟨pL,cL,U,E,R,I,D⟩:=Tap.head H;obtain ⟨N,L⟩:∃ N,ns.length=N:=⟨_,rfl⟩
 rw [L] at E R D;have J:=(b_G E).1;have hz:=a_i E;rw [L];clear H M E R I D L;go_enter Tryz.func36,Tryz.ntmps36;go_wp2;go_ret;exact ⟨rfl,rfl⟩
/-- What one step makes of the nodes: an error, its number, the nodes. -/
def stE (f:Int) (ns:List Nd) (st:Sp):Int:=if st.op=1 then f_N ns st.D st.X else doE ns st.op (f+st.a) (f+st.b) st.k
def stR (f:Int) (ns:List Nd) (st:Sp):Int:=if st.op=1 then f_O ns st.D st.X else doR ns st.op (f+st.a) (f+st.b) st.k
def stN (f:Int) (ns:List Nd) (st:Sp):List Nd:=if st.op=1 then c_S ns st.D st.X else doN ns st.op (f+st.a) (f+st.b) st.k
/-- A step that a plan may hold. -/
structure SpOk (st:Sp):Prop where
 ra:0<=st.a/\st.a<=1000
 rb:0<=st.b/\st.b<=1000
 rk:0<=st.k/\st.k<=1000
 rop:1<=st.op/\st.op<=14
 rD:RI st.D
 rX:RI st.X
theorem q_7 (B I:Nat) (ns:List Nd) (hG:NodesG ns) (st:Sp) (ah:SpOk st) (aa:st.op≠1->RkC st.op) (f:Int) (hf:0<=f/\f<=1000) (p:Option Addr) (n c:Nat) (p2:Option Addr) (n2 c2:Nat) (w:World) (hT:TapC w B I ns) (ae:Hid (Tz w)) (h1:Nums .i64 w (.slice p n c) st.D) (h2:Nums .i64 w (.slice p2 n2 c2) st.X):
  Calls Tryz.prog 51 #[.pointer (some ⟨I,0,none⟩),.agg #[.int .i64 st.op,.int .i64 st.a,.int .i64 st.b,.int .i64 st.k,.slice p n c,.slice p2 n2 c2,.bool st.par],.int .i64 f] w fun e J=>e = .returned (.tuple #[.int .i64 (stR f ns st),.int .i64 (stE f ns st)])/\TapC J B I (stN f ns st)/\Below B w J/\Only SC w J/\Spar2 I w J:=by
 obtain ⟨op,a,b,k,D,X,ab⟩:=st;obtain ⟨ra,rb,rk,af,rD,rX⟩:=ah;simp only [] at ra rb rk af rD rX h1 h2 aa ⊢;obtain ⟨R,eR⟩:∃ R,stR f ns ⟨op,a,b,k,D,X,ab⟩=R:=⟨_,rfl⟩
 obtain ⟨E,eE⟩:∃ R,stE f ns ⟨op,a,b,k,D,X,ab⟩=R:=⟨_,rfl⟩
 obtain ⟨NS,eN⟩:∃ R,stN f ns ⟨op,a,b,k,D,X,ab⟩=R:=⟨_,rfl⟩
 rw [eR,eE,eN]
 have ac:B<=w.heap.size:=by
  obtain ⟨hb,v,xs,hv,_⟩:=hT;exact Nat.le_trans hb (Nat.le_of_lt (a_i hv))
 have HZ:Hid (B<=w.heap.size):=ac;by_cases h0:op=1
 ·subst h0
  have cl:Hid (∀ W,Below w.heap.size w W->Calls Tryz.prog 71 #[.pointer (some ⟨I,0,none⟩),.agg #[.slice p n c,.slice p2 n2 c2]] W fun e J=>e = .returned (.tuple #[.int .i64 R,.int .i64 E])/\TapC J B I NS/\Below B W J/\Only SC W J/\Spar2 I W J):=fun W hW=>by
   have:=j_7 B I ns hG p p2 n c n2 c2 D X rD rX W (hT.up hW) (h1.up hW) (h2.up hW);rw [<- eR,<- eE,<- eN];exact this
  clear eR eE eN hT h1 h2 aa rD rX ac;go_enter Tryz.func51,Tryz.ntmps51;go_wp2_with fail
  generalize M:World.alloc _ _=W0;have H:Hid (Below w.heap.size w W0):=by rw [<- M];exact a_b w _
  clear M;refine (cl.out W0 H.out).mono ?_;rintro e w1 ⟨rfl,L,U,O,V⟩;have HF:Hid (TapC w1 B I NS/\Below B w w1/\Only SC w w1/\Spar2 I w w1):=⟨L,(H.out.mono HZ.out).trans U,(Only.of H.out).trans O,Spar2.trans (Spar2.of H.out) V H.out.size⟩
  clear L U O V cl;go_wp2;go_ret2;exact ⟨rfl,HF.out⟩
 ·have aj:(op==1)=false:=by simpa using h0
  obtain ⟨fa,ag⟩:∃ x,f+a=x:=⟨_,rfl⟩
  obtain ⟨fb,ad⟩:∃ x,f+b=x:=⟨_,rfl⟩
  have cd:Hid (∀ W,Below w.heap.size w W->Calls Tryz.prog 72 #[.pointer (some ⟨I,0,none⟩),.int .i64 op,.int .i64 fa,.int .i64 fb,.int .i64 k] W fun e J=>e = .returned (.tuple #[.int .i64 R,.int .i64 E])/\TapC J B I NS/\Below B W J/\Only SC W J/\Spar2 I W J):=fun W hW=>by
   have:=p_z B I ns hG op fa fb k (aa h0) (by unfold InR;omega) W (hT.up hW) (Hid.up_tz ae hW);rw [<- eR,<- eE,<- eN];unfold stR stE stN;simp only [if_neg h0];rw [ag,ad];exact this
  have ak:0<=fa/\fa<=2000:=by omega
  have ai:0<=fb/\fb<=2000:=by omega
  clear eR eE eN hT h1 h2 aa rD rX ac;go_enter Tryz.func51,Tryz.ntmps51;go_wp2_with fail
  generalize M:World.alloc _ _=W0;have H:Hid (Below w.heap.size w W0):=by rw [<- M];exact a_b w _
  clear M;refine (cd.out W0 H.out).mono ?_;rintro e w1 ⟨rfl,L,U,O,V⟩;have HF:Hid (TapC w1 B I NS/\Below B w w1/\Only SC w w1/\Spar2 I w w1):=⟨L,(H.out.mono HZ.out).trans U,(Only.of H.out).trans O,Spar2.trans (Spar2.of H.out) V H.out.size⟩
  clear L U O V cd;go_wp2;go_ret2;exact ⟨rfl,HF.out⟩
end Go.Proofs.YtcpbhhlepdgdkaaGreatDoor.Wd
namespace Go.Proofs.YtcpbhhlepdgdkaaGreatDoor.Wd
open Go.RowKit
theorem Kept.none (B:Nat) (W:World):Kept B W (.slice none 0 0) []:=fun _ _=>.inl ⟨rfl,rfl⟩
theorem Kept.cut {B:Nat} {W:World} {p:Option Addr} {n c i j:Nat} {l:List Int} (h:Kept B W (.slice p n c) l) (D:i<=j) (I:j<=n) (E:l.length=n) (J:n<=c):Kept B W (sliced p i j c 1) ((l.drop i).take (j - i)):=fun W' H=>g_Y D I E J (h W' H)
theorem m_3 (B D:Nat) (sts:List Sp) (rest:List Int) (ab:sts.length<=200) (d:List Int) (ag:k_V d) (m:Nat) (hm:a_u d=(m:Int)) (ai:m<=rest.length) (U:rest.length<=1073741824) (p:Option Addr) (n c:Nat) (I w:World) (hP:PlanO B I w D sts rest) (h1:Kept B I (.slice p n c) d):
  Calls Tryz.prog 69 #[.pointer (some ⟨D,0,none⟩),.slice p n c] w fun e w'=>e = .returned (.int .i64 (sts.length:Int))/\PlanO B I w' D (sts++[⟨1,0,0,0,d,rest.take m,true⟩]) (rest.drop m)/\Rn B w w':=by
 have HP:Hid (PlanO B I w D sts rest):=hP;obtain ⟨O,V,pS,am,cS,pR,H,E,xs,hb,ho,hn,hc,hk,R,aa⟩:=hP;have ad:B<=w.heap.size:=Nat.le_trans O (Nat.le_of_lt (a_i hb));have cs:=d_m _ d ag w (h1 w V.r4);rw [hm] at cs;obtain ⟨N,eN⟩:∃ N,sts.length=N:=⟨_,rfl⟩
 have HN:Hid (sts.length=N/\N<=200):=⟨eN,by omega⟩
 rw [eN] at ho hn ⊢;subst hn;obtain ⟨⟨x0,y0⟩,⟨x1,y1⟩⟩:=e_q hb;have J:=r_N pR H E m (by omega);have M:=r_M pR H E m (by omega);obtain ⟨qh,ac⟩:=d_f pR 0 m E;obtain ⟨ql,af⟩:=d_f pR m H E;have kh:=hk.cut (Nat.zero_le m) (by omega) aa R;have kl:=hk.cut (show m<=H by omega) (Nat.le_refl _) aa R;rw [List.drop_zero,Nat.sub_zero] at kh;rw [List.take_of_length_le (by rw [List.length_drop];omega)] at kl;rw [ac] at J kh;rw [af] at M kl;simp only [Nat.sub_zero] at J kh;have HK:Hid (Kept B I (.slice qh m E) (rest.take m)/\Kept B I (.slice ql (H - m) (E - m)) (rest.drop m)/\Kept B I (.slice p n c) d):=⟨kh,kl,h1⟩
 have HW:Hid (B<=D/\B<=w.heap.size/\w.heap[D]?=some (.cells #[.slice pS N cS,.slice pR H E] 118 (0,0))/\w.ownsRow B 121 7 (.slice pS N cS) N xs/\StsC B I sts xs/\(rest.drop m).length=H - m/\H - m<=E - m/\Rn B I w):=⟨O,ad,hb,ho,hc,by rw [List.length_drop];omega,by omega,V⟩
 have ak:=a_g x0;clear O hb ho hc hk R aa ad kh kl h1 V ac af hm ai U ab ag eN;go_enter Tryz.func69,Tryz.ntmps69;go_wp2_with fail
 refine cs.mono ?_;rintro e L ⟨rfl,rfl⟩;clear cs
 have HV:Hid (PlanO B I ((L.setCell ⟨D,1,none⟩ (.slice ql (H - m) (E - m))).alloc (.cells #[.slice p n c,.slice qh m E] 77)) D sts (rest.drop m)/\Rn B L ((L.setCell ⟨D,1,none⟩ (.slice ql (H - m) (E - m))).alloc (.cells #[.slice p n c,.slice qh m E] 77))):=by
  obtain ⟨h1,h2,h3,h4,h5,h6,h7,h8⟩:=HW.out;have hR:Rn B L (L.setCell ⟨D,1,none⟩ (.slice ql (H - m) (E - m))):=⟨(Below.refl _ _).setCell (p:=⟨D,1,none⟩) h1 _,Only.set h3 (by simp)⟩
  have hv:(L.setCell ⟨D,1,none⟩ (.slice ql (H - m) (E - m))).heap[D]?=some (.cells #[.slice pS N cS,.slice ql (H - m) (E - m)] 118 (0,0)):=by
   rw [a_n h3];rfl
  have aj:PlanO B I (L.setCell ⟨D,1,none⟩ (.slice ql (H - m) (E - m))) D sts (rest.drop m):=⟨h1,h8.trans hR,_,_,_,_,_,_,_,hv,by rw [HN.out.1];exact a_C (S:=[118]) h4 (Only.set h3 (by simp)) (by decide),HN.out.1,h5,HK.out.2.1,h7,h6⟩
  exact ⟨aj.up (a_b _ _),hR.trans (Rn.of (Nat.le_trans h2 hR.size) (a_b _ _))⟩
 go_wp2_with fail
 have ca:=h_d B D sts (rest.drop m) (by rw [HN.out.1];exact HN.out.2) ⟨1,0,0,0,d,rest.take m,true⟩ p n c qh m E I _ HV.out.1 HK.out.2.2 HK.out.1;rw [HN.out.1] at ca;refine ca.mono ?_;rintro e w2 ⟨rfl,ah,ae⟩;have HF:Hid (PlanO B I w2 D (sts++[⟨1,0,0,0,d,rest.take m,true⟩]) (rest.drop m)/\Rn B L w2):=⟨ah,HV.out.2.trans ae⟩
 clear ca ah ae HV x0 x1 y0 y1;go_wp2;go_ret;exact ⟨rfl,HF.out⟩
/-- A step that is no Leaf. -/
abbrev spD (op a b k:Int):Sp:=⟨op,a,b,k,[],[],false⟩
theorem c_l (B E N:Nat) (sts:List Sp) (rest:List Int) (J:sts.length=N) (D:N<=200) (op a b k:Int) (H w:World) (L:PlanO B H w E sts rest):
  Calls Tryz.prog 49 #[.pointer (some ⟨E,0,none⟩),.agg #[.int .i64 op,.int .i64 a,.int .i64 b,.int .i64 k,.slice none 0 0,.slice none 0 0,.bool false]] w fun e I=>e = .returned (.int .i64 (N:Int))/\Hid (PlanO B H I E (sts++[spD op a b k]) rest/\(sts++[spD op a b k]).length=N+1/\Rn B w I):=by
 subst J;refine (h_d B E sts rest D (spD op a b k) none 0 0 none 0 0 H w L (Kept.none _ _) (Kept.none _ _)).mono ?_;rintro e I ⟨R,M,O⟩;exact ⟨R,M,by simp,O⟩
/-- What dense lays: its steps, and the last one's number. -/
def n_B (two:Bool) (N:Nat) (m r l:Int):List Sp:=if two then [spD 14 l 0 0,spD 4 m (N:Int) 0,spD 8 ((N+1:Nat):Int) 0 1,spD 2 ((N+2:Nat):Int) r 0] else [spD 4 m l 0,spD 8 (N:Int) 0 1,spD 2 ((N+1:Nat):Int) r 0]
def r_s (two:Bool) (N:Nat):Nat:=if two then N+3 else N+2
theorem m_4 (B D N:Nat) (sts:List Sp) (rest:List Int) (hN:sts.length=N) (aa:N<=190) (m r l:Int) (p:Option Addr) (n c:Nat) (E w:World) (hP:PlanO B E w D sts rest):
  Calls Tryz.prog 70 #[.pointer (some ⟨D,0,none⟩),.int .i64 m,.int .i64 r,.slice p n c,.int .i64 l] w fun e w'=>e = .returned (.int .i64 (r_s (decide (n=2)) N:Int))/\PlanO B E w' D (sts++n_B (decide (n=2)) N m r l) rest/\Rn B w w':=by
 have U:Hid (PlanO B E w D sts rest/\sts.length=N/\Rn B w w):=⟨hP,hN,Rn.refl _ _⟩
 obtain ⟨R,eR⟩:∃ R,r_s (decide (n=2)) N=R:=⟨_,rfl⟩
 obtain ⟨S,eS⟩:∃ S,sts++n_B (decide (n=2)) N m r l=S:=⟨_,rfl⟩
 have M:Hid (r_s (decide (n=2)) N=R/\sts++n_B (decide (n=2)) N m r l=S):=⟨eR,eS⟩
 rw [eR,eS];clear hP eR eS hN;go_enter Tryz.func70,Tryz.ntmps70;by_cases h2:n=2
 ·subst h2;go_wp2_with fail
  refine (c_l B D N _ rest U.out.2.1 (by omega) 14 l 0 0 E w U.out.1).mono ?_;rintro e w1 ⟨rfl,O⟩;go_wp2_with fail
  refine (c_l B D (N+1) _ rest O.out.2.1 (by omega) 4 m (N:Int) 0 E w1 O.out.1).mono ?_;rintro e w2 ⟨rfl,I⟩;go_wp2_with fail
  refine (c_l B D (N+1+1) _ rest I.out.2.1 (by omega) 8 ((N+1:Nat):Int) 0 1 E w2 I.out.1).mono ?_;rintro e w3 ⟨rfl,H⟩;go_wp2_with fail
  refine (c_l B D (N+1+1+1) _ rest H.out.2.1 (by omega) 2 ((N+2:Nat):Int) r 0 E w3 H.out.1).mono ?_;rintro e L ⟨rfl,J⟩;have V:R=N+3:=by rw [<- M.out.1];rfl
  have HF:Hid (PlanO B E L D S rest/\Rn B w L):=by
   refine ⟨?_,((O.out.2.2.trans I.out.2.2).trans H.out.2.2).trans J.out.2.2⟩;rw [<- M.out.2];have:=J.out.1;simp only [List.append_assoc,List.cons_append,List.nil_append] at this;exact this
  subst V;clear O I H J;go_wp2;go_ret;exact ⟨by simp;omega,HF.out⟩
 ·have ab:((n:Int)==2)=false:=by simpa using (show (n:Int)≠2 by omega)
  go_wp2_with fail
  refine (c_l B D N _ rest U.out.2.1 (by omega) 4 m l 0 E w U.out.1).mono ?_;rintro e w2 ⟨rfl,I⟩;go_wp2_with fail
  refine (c_l B D (N+1) _ rest I.out.2.1 (by omega) 8 (N:Int) 0 1 E w2 I.out.1).mono ?_;rintro e w3 ⟨rfl,H⟩;go_wp2_with fail
  refine (c_l B D (N+1+1) _ rest H.out.2.1 (by omega) 2 ((N+1:Nat):Int) r 0 E w3 H.out.1).mono ?_;rintro e L ⟨rfl,J⟩;have V:R=N+2:=by rw [<- M.out.1,decide_eq_false h2];rfl
  have HF:Hid (PlanO B E L D S rest/\Rn B w L):=by
   refine ⟨?_,(I.out.2.2.trans H.out.2.2).trans J.out.2.2⟩;rw [<- M.out.2,decide_eq_false h2];have:=J.out.1;simp only [List.append_assoc,List.cons_append,List.nil_append] at this;exact this
  subst V;clear I H J;go_wp2;go_ret;exact ⟨by simp;omega,HF.out⟩
/-- A Leaf of parameters. -/
abbrev spL (D X:List Int):Sp:=⟨1,0,0,0,D,X,true⟩
/-- The Leafs of the first j parameters, and what is left. -/
def prS (PP:List (List Int)) (rest:List Int):Nat->List Sp×List Int
 | 0=>([],rest)
 | j+1=>((prS PP rest j).1++[spL (shA PP j) ((prS PP rest j).2.take (a_u (shA PP j)).toNat)],(prS PP rest j).2.drop (a_u (shA PP j)).toNat)
theorem i_8 {PP:List (List Int)} {rest:List Int}:∀ j,(∀ i,i < j->0<=a_u (shA PP i))->(∀ i,i<=j->d_Z PP i<=(rest.length:Int))->((prS PP rest j).2.length:Int)=(rest.length:Int) - d_Z PP j/\(prS PP rest j).1.length=j
 | 0,_,_=>by simp [prS,d_Z]
 | j+1,h,h2=>by
  obtain ⟨I,H⟩:=i_8 j (fun i E=>h i (by omega)) (fun i E=>h2 i (by omega));have J:=h j (by omega);have D:=h2 (j+1) (by omega);simp only [d_Z] at D ⊢;simp only [prS,List.length_drop,List.length_append,List.length_cons,List.length_nil];omega
/-- The numbers of nodes, from N on. -/
def k_j (N j:Nat):List Int:=(List.range j).map fun i=>((N+i:Nat):Int)
theorem m_5 (N j:Nat):k_j N (j+1)=k_j N j++[((N+j:Nat):Int)]:=by simp [k_j,List.range_succ]
theorem Rn.low {B:Nat} {D W W':World} (h:Rn B D W) (I:B<=D.heap.size) (E:Below D.heap.size W W'):Rn B D W':=⟨h.bel.trans (E.mono I),Nat.le_trans h.onl.1 E.size,fun k H J=>(E.block k H).trans (h.onl.2 k H J)⟩
theorem PlanO.int {B:Nat} {D W W':World} {E:Nat} {sts:List Sp} {rest:List Int} (h:PlanO B D W E sts rest) (R:B<=D.heap.size) (H:Only [3] W W') (J:Below D.heap.size W W'):PlanO B D W' E sts rest:=by
 obtain ⟨hb,L,p,n,c,p2,U,M,xs,V,O,I⟩:=h;exact ⟨hb,L.low R J,p,n,c,p2,U,M,xs,H.keep V (by decide),a_C O H (by decide),I⟩
theorem PlanO.rn {B:Nat} {D W:World} {E:Nat} {sts:List Sp} {rest:List Int} (h:PlanO B D W E sts rest):Rn B D W:=h.2.1
theorem Rn.block {B:Nat} {D W:World} (h:Rn B D W) {k:Nat} {E:Array Value} {e:TypeId} {H:Nat×Nat} (I:D.heap[k]?=some (.cells E e H)) (he:e∉S2):W.heap[k]?=some (.cells E e H):=h.onl.keep I he
theorem OwnS.dims {B:Nat} {D:World} {p:Option Addr} {n c:Nat} {PP:List (List Int)} (h:OwnS D 0 (.slice p n c) PP) (O:PP.length=n):∀ j,j < n->∃ q o a b d,p=some ⟨q,o,none⟩/\(∀ W',Rn B D W'->W'.cell? ⟨q,o+j,none⟩=some (.slice a b d))/\Kept B D (.slice a b d) (shA PP j):=by
 subst O;intro j L;obtain ⟨vs,H,J⟩:=h;obtain ⟨a,b,d,e,M⟩:=J j L;have E:=H;rcases H.2 with ⟨_,h0⟩|⟨g,R,U,V,hB,hc,_⟩
 ·omega
 ·cases V;refine ⟨g,0,a,b,d,rfl,fun W' I=>?_,M.kept (by decide)⟩;have:=World.ownsRow.cells (a_C E I.onl (by decide)) rfl j _ e;rw [a_t] at this;exact this
theorem s_o:GT Tryz.prog 22 3 1 8:=⟨Tryz.underlying22,by kernel_rfl⟩
/-- What a layer lays: its steps, and the number of what comes out. -/
def f_U (l:Ly) (d:List Int) (N:Nat) (rest:List Int) (bf last:Int):List Sp:=(prS (c_w l d) rest (c_w l d).length).1++(if a_s l.1=0 then n_B (decide (d.length=2)) (N+2) (N:Int) ((N+1:Nat):Int) last else if a_s l.1=1 then [spD 12 last (N:Int) 1] else if a_s l.1=2 then [spD 13 last 0 l.2.1] else if a_s l.1=3 then [spD 11 last 0 l.2.1] else [spD 2 bf last 0])
def k_0 (l:Ly) (d:List Int) (N:Nat):Nat:=if a_s l.1=0 then r_s (decide (d.length=2)) (N+2) else if a_s l.1=1 then N+1 else N
def i_l (l:Ly) (d:List Int) (rest:List Int):List Int:=(prS (c_w l d) rest (c_w l d).length).2
theorem m_6 (B J N:Nat) (sts:List Sp) (rest:List Int) (hN:sts.length=N) (aY:N<=180) (s:ByteArray) (a b:Int) (hl:a_R (s,a,b)) (d:List Int) (hd:InOk d) (ao:a_s s=1->d.length=2) (aM:psz (s,a,b) d<=(rest.length:Int)) (aJ:rest.length<=1073741824) (p:Option Addr) (n c:Nat) (bf E:Int) (w:World) (hP:PlanO B w w J sts rest) (h1:Kept B w (.slice p n c) d):
  Calls Tryz.prog 50 #[.pointer (some ⟨J,0,none⟩),.agg #[.string s,.int .i64 a,.int .i64 b],.slice p n c,.int .i64 bf,.int .i64 E] w fun e w'=>e = .returned (.int .i64 (k_0 (s,a,b) d N:Int))/\PlanO B w' w' J (sts++f_U (s,a,b) d N rest bf E) (i_l (s,a,b) d rest)/\Rn B w w':=by
 haveI:Nonempty World:=⟨w⟩
 obtain ⟨RN,ay⟩:∃ R,k_0 (s,a,b) d N=R:=⟨_,rfl⟩
 obtain ⟨RS,ap⟩:∃ R,f_U (s,a,b) d N rest bf E=R:=⟨_,rfl⟩
 obtain ⟨RR,az⟩:∃ R,i_l (s,a,b) d rest=R:=⟨_,rfl⟩
 rw [ay,ap,az];obtain ⟨PP,eP⟩:∃ PP,c_w (s,a,b) d=PP:=⟨_,rfl⟩
 have aL:d.length=n:=by
  obtain ⟨_,_,_,e,h⟩:=h1.nums.lst;cases e;exact h.out.1
 obtain ⟨I,am⟩:∃ n,PP.length=n:=⟨_,rfl⟩
 have ak:=k_i hl hd;have aC:=e_4 (l:=(s,a,b)) (d:=d);have M:=f_T hl hd;have V:=e_5 (s,a,b) d;rw [eP] at ak aC M V;rw [am] at ak aC M V
 have aj:∀ i,i < I->0<=a_u (shA PP i):=fun i hi=>by
  rw [<- eP,<- am] at *;have hp:=hd.prod;unfold c_w at hi ⊢;rcases a_L hl with ⟨-,k,g1,g2⟩|⟨-,k,g1,g2⟩|⟨-,k,g1,g2⟩|⟨-,k,g1,g2⟩|⟨-,k,g1,g2⟩ <;> simp only [] at k g1 g2 hi ⊢ <;> rw [k] at hi ⊢ <;> simp at hi
  ·have:=a_3 g1 hp;rcases (show i=0∨i=1 by omega) with rfl|rfl <;> simp [shA,c_F,c_E] <;> omega
  ·subst hi;have h0:0<=d.getD 0 0:=by rcases hd with ⟨x,rfl,h⟩|⟨x,y,rfl,hx,hy⟩ <;> simp <;> omega
   simp only [if_neg (show ¬ (1:Nat)=0 by omega),if_true];show 0<=a_u [a,d.getD 0 0,b];rw [c_X];exact Int.mul_nonneg (Int.mul_nonneg (by omega) h0) (by omega)
 have ab:∀ i,i<=I->d_Z PP i<=(rest.length:Int):=by
  have aR:∀ k i,i+k=I->d_Z PP i<=d_Z PP I:=by
   intro k
   induction k with
   | zero=>intro i hi;rw [show i=I by omega];exact Int.le_refl _
   | succ k ih=>
    intro i hi;have h5:=ih (i+1) (by omega);have h6:=aj i (by omega);simp only [d_Z] at h5;omega
  intro i hi;have:=aR (I - i) i (by omega);omega
 have ah:∀ j,j<=I->((prS PP rest j).2.length:Int)=(rest.length:Int) - d_Z PP j/\(prS PP rest j).1.length=j:=fun j hj=>i_8 j (fun i hi=>aj i (by omega)) (fun i hi=>ab i (by omega))
 have HM:Hid ((∀ j,j<=I->(prS PP rest j).2.length<=rest.length/\(prS PP rest j).1.length=j)/\(∀ j,j < I->(a_u (shA PP j)).toNat<=(prS PP rest j).2.length/\a_u (shA PP j)=((a_u (shA PP j)).toNat:Int)/\k_V (shA PP j))):=by
  refine ⟨fun j hj=>?_,fun j hj=>?_⟩
  ·have:=ah j hj;have h5:=ak j (by omega);exact ⟨by omega,this.2⟩
  ·have:=ah j (by omega);have h5:=aj j hj;have h6:=ab (j+1) (by omega);simp only [d_Z] at h6;exact ⟨by omega,by omega,M j hj⟩
 have aP:=a_L hl
 have cp:Hid (∀ W,Below w.heap.size w W->Calls Tryz.prog 48 #[.agg #[.string s,.int .i64 a,.int .i64 b],.slice p n c] W fun e w'=>∃ v',e = .returned v'/\ParR PP v' w'/\Below W.heap.size W w'):=fun W hW=>by
  rw [<- eP];exact d_n s a b d hl hd ao p n c W (h1.nums.up hW)
 have D:Hid (k_0 (s,a,b) d N=RN/\f_U (s,a,b) d N rest bf E=RS/\i_l (s,a,b) d rest=RR/\c_w (s,a,b) d=PP/\PP.length=I/\d.length=n/\sts.length=N/\I<=2/\rest.length<=1073741824):=⟨ay,ap,az,eP,am,aL,hN,V,aJ⟩
 have HP:Hid (PlanO B w w J sts rest):=hP;obtain ⟨t0,t1,t2,t3,-⟩:=kts s;clear ay ap az eP am aL ak aC M aj ab ah hP h1 aM aJ ao hd hl hN;go_enter Tryz.func50,Tryz.ntmps50;go_wp2_with fail
 generalize aq:World.alloc _ _=W0;have av:Hid (Below w.heap.size w W0):=by rw [<- aq];exact a_b w _
 have aA:Hid (W0.heap[w.heap.size]?=some (.cells #[.string s,.int .i64 a,.int .i64 b] 65 (0,0))):=by
  show _=_;rw [<- aq];exact Array.getElem?_push_size
 clear aq;refine (cp.out W0 av.out).mono ?_;rintro e H ⟨v1,rfl,aN,ar⟩;obtain ⟨aU,a0,rfl,-,af⟩:=aN;have ai:Below w.heap.size w H:=a_c av.out ar;rw [D.out.2.2.2.2.1] at af ⊢;have aa:Hid (PlanO B H H J sts rest/\B<=H.heap.size/\Rn B w H):=⟨(HP.out.up ai).on,Nat.le_trans HP.out.size ai.size,Rn.of HP.out.size ai⟩
 have HD:Hid (∀ j,j < I->∃ q o a b d,aU=some ⟨q,o,none⟩/\(∀ W',Rn B H W'->W'.cell? ⟨q,o+j,none⟩=some (.slice a b d))/\Kept B H (.slice a b d) (shA PP j)):=OwnS.dims af D.out.2.2.2.2.1;have aV:Hid (H.heap[w.heap.size]?=some (.cells #[.string s,.int .i64 a,.int .i64 b] 65 (0,0))):=(ar.block _ (a_i aA.out)).trans aA.out;have aE:I<=2:=V;clear af ar ai cp aA av;go_wp2_with fail
 go_loopg [11,18] I (fun gg u v wr=>∃ (j:Nat),j<=I/\gg=I - j/\v = .int .i64 (j:Int)/\Hid (OwnK .i64 3 wr H.heap.size u (k_j N j))/\Hid (PlanO B H wr J (sts++(prS PP rest j).1) (prS PP rest j).2))
 case atStart=>exact ⟨0,by omega,by omega,rfl,OwnK.nil _ _ _ _,by show PlanO _ _ _ _ _ _;simpa [prS] using aa.out.1⟩
 case round=>
  obtain ⟨j,hj,hg,rfl,HO,HJ⟩:=hrel;obtain ⟨pv,nv,cv,rfl,O⟩:=HO.out.nums.lst;have aQ:k_j N j=k_j N j:=rfl;have an:=O.out.1;simp only [k_j,List.length_map,List.length_range] at an;subst an;clear aQ;by_cases aF:j < I
  ·have aZ:(j:Int) < (I:Int):=by omega
   obtain ⟨q,o,a3,b3,d3,rfl,ad,aI⟩:=HD.out j aF;have c0:=ad wr HJ.out.rn;obtain ⟨m1,m2,m3⟩:=HM.out.2 j aF;have ag:=HM.out.1 j (by omega);have aw:(sts++(prS PP rest j).1).length=N+j:=by rw [List.length_append,ag.2,D.out.2.2.2.2.2.2.1]
   have cq:=m_3 B J (sts++(prS PP rest j).1) (prS PP rest j).2 (by rw [aw];omega) (shA PP j) m3 _ m2 m1 (by have:=D.out.2.2.2.2.2.2.2.2;omega) a3 b3 d3 H wr HJ.out aI;rw [aw] at cq;clear m1 m2 m3 aI ad ag aw O;go_wp2_with fail
   refine cq.mono ?_;rintro e w1 ⟨rfl,aK,aH⟩;have aD:Hid (OwnK .i64 3 w1 H.heap.size (.slice pv j cv) (k_j N j)):=HO.out.only aH.onl (by decide)
   have au:Hid (PlanO B H w1 J (sts++(prS PP rest (j+1)).1) (prS PP rest (j+1)).2):=by
    have:=aK;rw [List.append_assoc] at this;exact this
   have aO:Hid (H.heap.size<=w1.heap.size):=au.out.rn.size;have ax:Below w1.heap.size w1 (w1.alloc (.cells #[.int .i64 ((N+j:Nat):Int)] 3)):=a_b w1 _
   have A1:Hid ((w1.alloc (.cells #[.int .i64 ((N+j:Nat):Int)] 3)).ownsRow H.heap.size 3 1 (.slice pv j cv) j (a_4 .i64 (k_j N j))):=by
    have:=aD.out.up ax;unfold OwnK at this;rw [show (k_j N j).length=j by simp [k_j]] at this;exact this
   have A2:Hid ((w1.alloc (.cells #[.int .i64 ((N+j:Nat):Int)] 3)).heap[w1.heap.size]?=some (.cells [Value.int .i64 ((N+j:Nat):Int)].toArray 3 (0,0))):=Array.getElem?_push_size;have A3:Hid (∀ y∈[Value.int .i64 ((N+j:Nat):Int)],y.oneCell'=true):=fun y hy=>by simp at hy;subst hy;rfl
   have A4:Hid (H.heap.size<=(w1.alloc (.cells #[.int .i64 ((N+j:Nat):Int)] 3)).heap.size):=Nat.le_trans aO.out ax.size;clear cq aK aH HO HJ c0 ax;go_wp2_with (at_builtin;refine b_z s_o (by decide) (by decide) rfl (.tmp 22) (.tmp 26) rfl H.heap.size _ _ _ rfl A1.out _ [.int .i64 ((N+j:Nat):Int)] rfl A2.out rfl A3.out (by omega) A4.out ?_;intro v0 w0 H0 O0 B0)
   have HF:Hid (OwnK .i64 3 w0 H.heap.size v0 (k_j N (j+1))):=by
    show OwnK _ _ _ _ _ _;unfold OwnK;rw [m_5,show (k_j N j++[((N+j:Nat):Int)]).length=j+1 by simp [k_j]];have:=H0.out;unfold a_4 at *;rw [List.map_append];exact this
   have aS:Hid (PlanO B H w0 J (sts++(prS PP rest (j+1)).1) (prS PP rest (j+1)).2):=(au.out.up (a_b w1 _)).int aa.out.2.1 O0.out (B0.out _ (Below.refl _ _));clear A1 A2 A3 A4 H0 O0 B0 aD au;go_wp2;go_roundg (I - (j+1))
   case measure=>omega
   case rel=>exact ⟨j+1,by omega,rfl,by first|rfl|simp,HF,aS⟩
  ·obtain rfl:j=I:=by omega
   have hX:=HJ.out.rn.block aV.out (by decide);obtain ⟨⟨y0,_⟩,⟨y1,_⟩,⟨y2,_⟩⟩:=t_s hX;have ae:(sts++(prS PP rest j).1).length=N+j:=by rw [List.length_append,(HM.out.1 j (Nat.le_refl _)).2,D.out.2.2.2.2.2.2.1]
   have ac:(c_w (s,a,b) d).length=j:=by rw [D.out.2.2.2.1];exact D.out.2.2.2.2.1
   have U:=O.out.2;clear hX aE V;rcases aP with ⟨-,k,-⟩|⟨-,k,-⟩|⟨-,k,-⟩|⟨-,k,-⟩|⟨-,k,-⟩ <;> (try simp only [] at k) <;> rw [k] at t0 t1 t2 t3 <;> simp [c_w,k] at ac
   ·replace t0:=t0.trans (show decide ((0:Nat)=0)=true from rfl);subst ac;obtain ⟨q,o,rfl,c0⟩:=U 0 (by omega);obtain ⟨q',o',e',c1⟩:=U 1 (by omega);cases e';replace c0:wr.cell? ⟨q,o,none⟩=some (.int .i64 (N:Int)):=c0;replace c1:wr.cell? ⟨q,o+1,none⟩=some (.int .i64 ((N+1:Nat):Int)):=c1;have aW:=a_g c0;clear U O HO HD t1 t2 t3;go_wp2;refine rel [] 9 73 (by kernel_rfl) rfl rfl (by kernel_rfl) (by rfl) ?_ ?_
    ·intro e he;simp at he
    apply Exists.intro;refine ⟨fun x=>?_,?_,?_⟩
    ·simp only [List.take_succ_cons,List.take_zero]
     iterate 9
      refine a_l rfl rfl ?_;apply Exists.intro;refine ⟨fun F hF hf K hK=>?_,?_⟩
      ·have hFc:=hF.cell;have hFf:=hF.frozen
       go_big_quiet_op
       first|exact hK|(apply Exists.intro;refine ⟨fun _=>?_,?_⟩;(· fail);exact hK)
      (try simp only [Act.put,sA_,sB_,sC_])
     refine b_c ?_;exact rfl
    ·exact fun x=>rfl
    ·intro w9 xs aG hf;simp only [List.drop_succ_cons,List.drop_zero];have aX:Hid (PlanO B H w9 J (sts++(prS PP rest 2).1) (prS PP rest 2).2):=HJ.out.up aG;clear hf aG c0 c1;go_wp2_with fail
     refine (m_4 B J (N+2) _ _ ae (by omega) (N:Int) ((N+1:Nat):Int) E p n c H w9 aX.out).mono ?_;rintro e L ⟨rfl,aB,aT⟩
     have HF:Hid (PlanO B L L J (sts++RS) RR/\Rn B w L):=by
      refine ⟨?_,aa.out.2.2.trans aB.rn⟩;have h3:=aB.on;rw [List.append_assoc] at h3;rw [<- D.out.2.1,<- D.out.2.2.1];unfold f_U i_l;rw [D.out.2.2.2.1,D.out.2.2.2.2.1,D.out.2.2.2.2.2.1];simp only [k,if_true];exact h3
     have eN:RN=r_s (decide (n=2)) (N+2):=by
      rw [<- D.out.1];unfold k_0;rw [D.out.2.2.2.2.2.1];simp only [k,if_true]
     rw [<- eN];clear aB aT D;go_wp2;go_ret;exact ⟨by first|rfl|simp [eN],HF.out⟩
   ·replace t0:=t0.trans (show decide ((1:Nat)=0)=false from rfl);replace t1:=t1.trans (show decide ((1:Nat)=1)=true from rfl);subst ac;obtain ⟨q,o,rfl,c0⟩:=U 0 (by omega);replace c0:wr.cell? ⟨q,o,none⟩=some (.int .i64 (N:Int)):=c0;have aW:=a_g c0;clear U O HO HD t2 t3;go_wp2_with fail
    refine (c_l B J (N+1) _ _ ae (by omega) 12 E (N:Int) 1 H wr HJ.out).mono ?_;rintro e L ⟨rfl,H2⟩
    have HF:Hid (PlanO B L L J (sts++RS) RR/\Rn B w L):=by
     refine ⟨?_,aa.out.2.2.trans H2.out.1.rn⟩;have h3:=H2.out.1.on;rw [List.append_assoc] at h3;rw [<- D.out.2.1,<- D.out.2.2.1];unfold f_U i_l;rw [D.out.2.2.2.1,D.out.2.2.2.2.1];simp only [k,if_true,if_false,if_neg (show ¬ (1:Nat)=0 by omega),if_neg (show ¬ (2:Nat)=0 by omega),if_neg (show ¬ (2:Nat)=1 by omega),if_neg (show ¬ (3:Nat)=0 by omega),if_neg (show ¬ (3:Nat)=1 by omega),if_neg (show ¬ (3:Nat)=2 by omega),if_neg (show ¬ (4:Nat)=0 by omega),if_neg (show ¬ (4:Nat)=1 by omega),if_neg (show ¬ (4:Nat)=2 by omega),if_neg (show ¬ (4:Nat)=3 by omega)];exact h3
    have eN:RN=N+1:=by
     rw [<- D.out.1];unfold k_0;simp only [k,if_true,if_false,if_neg (show ¬ (1:Nat)=0 by omega),if_neg (show ¬ (2:Nat)=0 by omega),if_neg (show ¬ (2:Nat)=1 by omega),if_neg (show ¬ (3:Nat)=0 by omega),if_neg (show ¬ (3:Nat)=1 by omega),if_neg (show ¬ (3:Nat)=2 by omega),if_neg (show ¬ (4:Nat)=0 by omega),if_neg (show ¬ (4:Nat)=1 by omega),if_neg (show ¬ (4:Nat)=2 by omega),if_neg (show ¬ (4:Nat)=3 by omega)]
     (try rfl)
    subst eN;clear H2 D;go_wp2;go_ret;exact ⟨by first|rfl|simp,HF.out⟩
   ·replace t0:=t0.trans (show decide ((2:Nat)=0)=false from rfl);replace t1:=t1.trans (show decide ((2:Nat)=1)=false from rfl);replace t2:=t2.trans (show decide ((2:Nat)=2)=true from rfl);subst ac;clear U O HO HD;go_wp2_with fail
    refine (c_l B J (N+0) _ _ ae (by omega) 13 E 0 a H wr HJ.out).mono ?_;rintro e L ⟨rfl,H2⟩
    have HF:Hid (PlanO B L L J (sts++RS) RR/\Rn B w L):=by
     refine ⟨?_,aa.out.2.2.trans H2.out.1.rn⟩;have h3:=H2.out.1.on;rw [List.append_assoc] at h3;rw [<- D.out.2.1,<- D.out.2.2.1];unfold f_U i_l;rw [D.out.2.2.2.1,D.out.2.2.2.2.1];simp only [k,if_true,if_false,if_neg (show ¬ (1:Nat)=0 by omega),if_neg (show ¬ (2:Nat)=0 by omega),if_neg (show ¬ (2:Nat)=1 by omega),if_neg (show ¬ (3:Nat)=0 by omega),if_neg (show ¬ (3:Nat)=1 by omega),if_neg (show ¬ (3:Nat)=2 by omega),if_neg (show ¬ (4:Nat)=0 by omega),if_neg (show ¬ (4:Nat)=1 by omega),if_neg (show ¬ (4:Nat)=2 by omega),if_neg (show ¬ (4:Nat)=3 by omega)];exact h3
    have eN:RN=N+0:=by
     rw [<- D.out.1];unfold k_0;simp only [k,if_true,if_false,if_neg (show ¬ (1:Nat)=0 by omega),if_neg (show ¬ (2:Nat)=0 by omega),if_neg (show ¬ (2:Nat)=1 by omega),if_neg (show ¬ (3:Nat)=0 by omega),if_neg (show ¬ (3:Nat)=1 by omega),if_neg (show ¬ (3:Nat)=2 by omega),if_neg (show ¬ (4:Nat)=0 by omega),if_neg (show ¬ (4:Nat)=1 by omega),if_neg (show ¬ (4:Nat)=2 by omega),if_neg (show ¬ (4:Nat)=3 by omega)]
     (try rfl)
    subst eN;clear H2 D;go_wp2;go_ret;exact ⟨by first|rfl|simp,HF.out⟩
   ·replace t0:=t0.trans (show decide ((3:Nat)=0)=false from rfl);replace t1:=t1.trans (show decide ((3:Nat)=1)=false from rfl);replace t2:=t2.trans (show decide ((3:Nat)=2)=false from rfl);replace t3:=t3.trans (show decide ((3:Nat)=3)=true from rfl);subst ac;clear U O HO HD;go_wp2_with fail
    refine (c_l B J (N+0) _ _ ae (by omega) 11 E 0 a H wr HJ.out).mono ?_;rintro e L ⟨rfl,H2⟩
    have HF:Hid (PlanO B L L J (sts++RS) RR/\Rn B w L):=by
     refine ⟨?_,aa.out.2.2.trans H2.out.1.rn⟩;have h3:=H2.out.1.on;rw [List.append_assoc] at h3;rw [<- D.out.2.1,<- D.out.2.2.1];unfold f_U i_l;rw [D.out.2.2.2.1,D.out.2.2.2.2.1];simp only [k,if_true,if_false,if_neg (show ¬ (1:Nat)=0 by omega),if_neg (show ¬ (2:Nat)=0 by omega),if_neg (show ¬ (2:Nat)=1 by omega),if_neg (show ¬ (3:Nat)=0 by omega),if_neg (show ¬ (3:Nat)=1 by omega),if_neg (show ¬ (3:Nat)=2 by omega),if_neg (show ¬ (4:Nat)=0 by omega),if_neg (show ¬ (4:Nat)=1 by omega),if_neg (show ¬ (4:Nat)=2 by omega),if_neg (show ¬ (4:Nat)=3 by omega)];exact h3
    have eN:RN=N+0:=by
     rw [<- D.out.1];unfold k_0;simp only [k,if_true,if_false,if_neg (show ¬ (1:Nat)=0 by omega),if_neg (show ¬ (2:Nat)=0 by omega),if_neg (show ¬ (2:Nat)=1 by omega),if_neg (show ¬ (3:Nat)=0 by omega),if_neg (show ¬ (3:Nat)=1 by omega),if_neg (show ¬ (3:Nat)=2 by omega),if_neg (show ¬ (4:Nat)=0 by omega),if_neg (show ¬ (4:Nat)=1 by omega),if_neg (show ¬ (4:Nat)=2 by omega),if_neg (show ¬ (4:Nat)=3 by omega)]
     (try rfl)
    subst eN;clear H2 D;go_wp2;go_ret;exact ⟨by first|rfl|simp,HF.out⟩
   ·replace t0:=t0.trans (show decide ((4:Nat)=0)=false from rfl);replace t1:=t1.trans (show decide ((4:Nat)=1)=false from rfl);replace t2:=t2.trans (show decide ((4:Nat)=2)=false from rfl);replace t3:=t3.trans (show decide ((4:Nat)=3)=false from rfl);subst ac;clear U O HO HD;go_wp2_with fail
    refine (c_l B J (N+0) _ _ ae (by omega) 2 bf E 0 H wr HJ.out).mono ?_;rintro e L ⟨rfl,H2⟩
    have HF:Hid (PlanO B L L J (sts++RS) RR/\Rn B w L):=by
     refine ⟨?_,aa.out.2.2.trans H2.out.1.rn⟩;have h3:=H2.out.1.on;rw [List.append_assoc] at h3;rw [<- D.out.2.1,<- D.out.2.2.1];unfold f_U i_l;rw [D.out.2.2.2.1,D.out.2.2.2.2.1];simp only [k,if_true,if_false,if_neg (show ¬ (1:Nat)=0 by omega),if_neg (show ¬ (2:Nat)=0 by omega),if_neg (show ¬ (2:Nat)=1 by omega),if_neg (show ¬ (3:Nat)=0 by omega),if_neg (show ¬ (3:Nat)=1 by omega),if_neg (show ¬ (3:Nat)=2 by omega),if_neg (show ¬ (4:Nat)=0 by omega),if_neg (show ¬ (4:Nat)=1 by omega),if_neg (show ¬ (4:Nat)=2 by omega),if_neg (show ¬ (4:Nat)=3 by omega)];exact h3
    have eN:RN=N+0:=by
     rw [<- D.out.1];unfold k_0;simp only [k,if_true,if_false,if_neg (show ¬ (1:Nat)=0 by omega),if_neg (show ¬ (2:Nat)=0 by omega),if_neg (show ¬ (2:Nat)=1 by omega),if_neg (show ¬ (3:Nat)=0 by omega),if_neg (show ¬ (3:Nat)=1 by omega),if_neg (show ¬ (3:Nat)=2 by omega),if_neg (show ¬ (4:Nat)=0 by omega),if_neg (show ¬ (4:Nat)=1 by omega),if_neg (show ¬ (4:Nat)=2 by omega),if_neg (show ¬ (4:Nat)=3 by omega)]
     (try rfl)
    subst eN;clear H2 D;go_wp2;go_ret;exact ⟨by first|rfl|simp,HF.out⟩
/-- The plan of the first i layers: its steps, the parameters that are left, what went in, what comes out. -/
def plF (d:List Int) (ls:List Ly) (S:List (List Int)) (P X:List Int):Nat->List Sp×List Int×Int×Int
 | 0=>([⟨1,0,0,0,d,X,false⟩],P,0,0)
 | i+1=>((plF d ls S P X i).1++f_U (lyA ls i) (shA S i) (plF d ls S P X i).1.length (plF d ls S P X i).2.1 (plF d ls S P X i).2.2.1 (plF d ls S P X i).2.2.2,i_l (lyA ls i) (shA S i) (plF d ls S P X i).2.1,(plF d ls S P X i).2.2.2,(k_0 (lyA ls i) (shA S i) (plF d ls S P X i).1.length:Int))
theorem m_7 (PP:List (List Int)) (rest:List Int):∀ j,(prS PP rest j).1.length=j
 | 0=>rfl
 | j+1=>by simp [prS,m_7 PP rest j]
theorem o_Q (l:Ly) (d:List Int) (N:Nat) (rest:List Int) (H D:Int):(f_U l d N rest H D).length<=6:=by
 unfold f_U;rw [List.length_append,m_7];have:=e_5 l d;have I:a_s l.1≠0->(c_w l d).length<=1:=fun h=>by unfold c_w;rw [if_neg h];split <;> simp
 by_cases E:a_s l.1=0
 ·rw [if_pos E];unfold n_B;split <;> simp <;> omega
 ·have:=I E;rw [if_neg E]
  split
  ·simp;omega
  ·split
   ·simp;omega
   ·split <;> simp <;> omega
theorem h_e (d:List Int) (ls:List Ly) (S:List (List Int)) (P X:List Int):∀ i,(plF d ls S P X i).1.length<=1+6*i
 | 0=>by simp [plF]
 | i+1=>by
  have:=h_e d ls S P X i;have D:=o_Q (lyA ls i) (shA S i) (plF d ls S P X i).1.length (plF d ls S P X i).2.1 (plF d ls S P X i).2.2.1 (plF d ls S P X i).2.2.2;simp only [plF,List.length_append];omega
theorem k_k {l:Ly} {d:List Int} (L:a_R l) (I:InOk d):∀ i,i < (c_w l d).length->0<=a_u (shA (c_w l d) i):=fun i H=>by
 have J:=I.prod;unfold c_w at H ⊢;rcases a_L L with ⟨-,k,D,E⟩|⟨-,k,D,E⟩|⟨-,k,D,E⟩|⟨-,k,D,E⟩|⟨-,k,D,E⟩ <;> rw [k] at H ⊢ <;> simp at H
 ·have:=a_3 D J;rcases (show i=0∨i=1 by omega) with rfl|rfl <;> simp [shA,c_F,c_E] <;> omega
 ·subst H;have M:0<=d.getD 0 0:=by rcases I with ⟨x,rfl,h⟩|⟨x,y,rfl,O,R⟩ <;> simp <;> omega
  simp only [if_neg (show ¬ (1:Nat)=0 by omega),if_true];show 0<=a_u [l.2.1,d.getD 0 0,l.2.2];rw [c_X];exact Int.mul_nonneg (Int.mul_nonneg (by omega) M) (by omega)
theorem p_A {l:Ly} {d:List Int} (D:a_R l) (E:InOk d):∀ k i,i+k=(c_w l d).length->d_Z (c_w l d) i<=d_Z (c_w l d) (c_w l d).length
 | 0,i,hi=>by rw [show i=(c_w l d).length by omega];exact Int.le_refl _
 | k+1,i,hi=>by
  have H:=p_A D E k (i+1) (by omega);have I:=k_k D E i (by omega);simp only [d_Z] at H;omega
theorem o_R {l:Ly} {d:List Int} (D:a_R l) (E:InOk d) {rest:List Int} (h:psz l d<=(rest.length:Int)):((i_l l d rest).length:Int)=(rest.length:Int) - psz l d:=by
 unfold i_l;rw [<- e_4] at h ⊢;exact (i_8 (PP:=c_w l d) (rest:=rest) _ (k_k D E) (fun i H=>Int.le_trans (p_A D E ((c_w l d).length - i) i (by omega)) h)).1
theorem i_9 {d:List Int} {ls:List Ly} {S:List (List Int)} (E:NetOk d ls S):∀ i,i<=ls.length->c_a ls S i<=c_a ls S ls.length:=by
 have D:∀ k i,i+k=ls.length->c_a ls S i<=c_a ls S ls.length:=by
  intro k
  induction k with
  | zero=>intro i H;rw [show i=ls.length by omega];exact Int.le_refl _
  | succ k ih=>
   intro i H;have I:=ih (i+1) (by omega);have J:=e_G (E.inn i (by omega)) (E.lay i (by omega));simp only [c_a] at I;omega
 exact fun i H=>D (ls.length - i) i (by omega)
theorem h_f {d:List Int} {ls:List Ly} {S:List (List Int)} {P X:List Int} (E:NetOk d ls S) (I:(P.length:Int)=c_a ls S ls.length):∀ i,i<=ls.length->((plF d ls S P X i).2.1.length:Int)=(P.length:Int) - c_a ls S i/\(i < ls.length->psz (lyA ls i) (shA S i)<=((plF d ls S P X i).2.1.length:Int))
 | 0,_=>by
  refine ⟨by simp [plF,c_a],fun h=>?_⟩;have D:=i_9 E 1 (by omega);simp only [c_a] at D;simp only [plF];omega
 | i+1,hi=>by
  obtain ⟨M,J⟩:=h_f (X:=X) E I i (by omega);have H:=J (by omega);have L:=o_R (E.lay i (by omega)) (E.inn i (by omega)) H
  have e:((plF d ls S P X (i+1)).2.1.length:Int)=(P.length:Int) - c_a ls S (i+1):=by
   simp only [plF,c_a];omega
  refine ⟨e,fun h=>?_⟩;have D:=i_9 E (i+1+1) (by omega);rw [e];simp only [c_a] at D ⊢;omega
theorem k_1 (B:Nat) (d:List Int) (ls:List Ly) (S:List (List Int)) (ok:NetOk d ls S) (aG:ls.length<=16) (P X:List Int) (av:(P.length:Int)=c_a ls S ls.length) (aw:P.length<=1073741824) (p p2 ps pp px:Option Addr) (n c H c2 ns cs np cp nx cx:Nat) (w:World) (hB:B<=w.heap.size) (ay:Kept B w (.slice p n c) d) (ad:∀ W',Rn B w W'->LyR 0 W' p2 H ls) (aE:OwnS w 0 (.slice ps ns cs) S) (af:S.length=ns) (hp:Kept B w (.slice pp np cp) P) (aD:np<=cp) (hx:Kept B w (.slice px nx cx) X):
  Calls Tryz.prog 35 #[.agg #[.slice p n c,.slice p2 H c2],.slice ps ns cs,.slice pp np cp,.slice px nx cx] w fun e w'=>∃ q m r xs,e = .returned (.slice q m r)/\(plF d ls S P X ls.length).1.length=m/\w'.ownsRow B 121 7 (.slice q m r) m xs/\StsC B w' (plF d ls S P X ls.length).1 xs/\Rn B w w':=by
 haveI:Nonempty World:=⟨w⟩
 obtain ⟨F,eF⟩:∃ F,plF d ls S P X=F:=⟨_,rfl⟩
 have L:=h_e d ls S P X;have I:=h_f (P:=P) (X:=X) ok av;have h0:F 0=([⟨1,0,0,0,d,X,false⟩],P,0,0):=by rw [<- eF];rfl
 have hs:∀ i,F (i+1)=((F i).1++f_U (lyA ls i) (shA S i) (F i).1.length (F i).2.1 (F i).2.2.1 (F i).2.2.2,i_l (lyA ls i) (shA S i) (F i).2.1,(F i).2.2.2,(k_0 (lyA ls i) (shA S i) (F i).1.length:Int)):=fun i=>by rw [<- eF];rfl
 rw [eF] at L I ⊢;have HF:Hid (F 0=([⟨1,0,0,0,d,X,false⟩],P,0,0)/\(∀ i,F (i+1)=((F i).1++f_U (lyA ls i) (shA S i) (F i).1.length (F i).2.1 (F i).2.2.1 (F i).2.2.2,i_l (lyA ls i) (shA S i) (F i).2.1,(F i).2.2.2,(k_0 (lyA ls i) (shA S i) (F i).1.length:Int)))/\(∀ i,(F i).1.length<=1+6*i)/\(∀ i,i<=ls.length->((F i).2.1.length:Int)=(P.length:Int) - c_a ls S i/\(i < ls.length->psz (lyA ls i) (shA S i)<=((F i).2.1.length:Int)))):=⟨h0,hs,L,I⟩
 have aF:P.length=np:=by
  obtain ⟨_,_,_,e,h⟩:=hp.nums.lst;cases e;exact h.out.1
 have ae:ls.length=H:=(ad w (Rn.refl _ _)).1;have J:Hid (NetOk d ls S/\ls.length<=16/\Kept B w (.slice p n c) d/\(∀ W',Rn B w W'->LyR 0 W' p2 H ls)/\Kept B w (.slice pp np cp) P/\np<=cp/\Kept B w (.slice px nx cx) X/\P.length<=1073741824/\P.length=np/\ls.length=H):=⟨ok,aG,ay,ad,hp,aD,hx,aw,aF,ae⟩
 have aM:Hid (∀ j,j < ns->∃ q o a b d,ps=some ⟨q,o,none⟩/\(∀ W',Rn B w W'->W'.cell? ⟨q,o+j,none⟩=some (.slice a b d))/\Kept B w (.slice a b d) (shA S j)):=OwnS.dims aE af;have aJ:ns=H+1:=by rw [<- af,ok.len,ae]
 subst aJ;have aS:H<=16:=by omega
 clear eF h0 hs L I ay ad aE af hp aD hx aw av ok aG aF ae;go_enter Tryz.func35,Tryz.ntmps35;go_wp2_with fail
 generalize U:World.alloc _ _=W0;have aY:W0.heap.size=w.heap.size+2:=by rw [<- U];simp
 have az:Below w.heap.size w W0:=by rw [<- U];go_grown
 have an:Rn B w W0:=Rn.of hB az
 have aI:Hid (W0.heap[w.heap.size]?=some (.cells #[.slice p n c,.slice p2 H c2] 25 (0,0))/\W0.heap[w.heap.size+1]?=some (.cells #[.slice none 0 0,.slice pp np cp] 118 (0,0))):=by
  show _/\_;rw [<- U];refine ⟨((a_b _ _).block _ (by simp)).trans Array.getElem?_push_size,?_⟩;rw [show w.heap.size+1=(w.alloc (.cells #[.slice p n c,.slice p2 H c2] 25)).heap.size by simp];exact Array.getElem?_push_size
 have aa:Hid (PlanO B W0 W0 (w.heap.size+1) [] P/\Rn B w W0):=⟨⟨by omega,Rn.refl _ _,_,_,_,_,_,_,[],aI.out.2,⟨rfl,.inl ⟨rfl,rfl⟩⟩,rfl,StsC.nil _ _,J.out.2.2.2.2.1.up an,J.out.2.2.2.2.2.1,J.out.2.2.2.2.2.2.2.2.1⟩,an⟩
 clear U az an;refine (h_d B (w.heap.size+1) [] P (by simp) ⟨1,0,0,0,d,X,false⟩ p n c px nx cx W0 W0 aa.out.1 (J.out.2.2.1.up aa.out.2) (J.out.2.2.2.2.2.2.1.up aa.out.2)).mono ?_;rintro e w1 ⟨rfl,aB,ah⟩
 have aH:Hid (PlanO B w1 w1 (w.heap.size+1) (F 0).1 (F 0).2.1/\Rn B W0 w1):=by
  rw [HF.out.1];exact ⟨aB.on,ah⟩
 have aO:Hid (w1.heap[w.heap.size]?=some (.cells #[.slice p n c,.slice p2 H c2] 25 (0,0))):=ah.block aI.out.1 (by decide);obtain ⟨_,⟨g1,_⟩⟩:=e_q aO.out;clear aB ah;go_wp2_with fail
 go_loopg [10,11,27] H (fun gg u u2 v wr=>∃ (k:Nat),k<=H/\gg=H - k/\u = .int .i64 (F k).2.2.1/\u2 = .int .i64 (F k).2.2.2/\v = .int .i64 (k:Int)/\Hid (PlanO B wr wr (w.heap.size+1) (F k).1 (F k).2.1/\Rn B w wr))
 case atStart=>exact ⟨0,by omega,by omega,by rw [HF.out.1],by rw [HF.out.1],rfl,aH.out.1,aa.out.2.trans aH.out.2⟩
 case round=>
  obtain ⟨k,hk,hg,rfl,rfl,rfl,O⟩:=hrel;by_cases aq:k < H
  ·have aT:(k:Int) < (H:Int):=by omega
   have aU:(k:Int) < ((H+1:Nat):Int):=by omega
   have R:k < ls.length:=by rw [J.out.2.2.2.2.2.2.2.2.2];exact aq
   obtain ⟨q,o,rfl,y0,y1,y2⟩:=(J.out.2.2.2.1 wr O.out.2).2 k aq;obtain ⟨q3,o3,a3,b3,d3,rfl,aK,aA⟩:=aM.out k (by omega);have s3:=aK wr O.out.2;have M:=HF.out.2.1 k;have ar:=HF.out.2.2.1 k;have V:=HF.out.2.2.2 k (by omega);obtain ⟨l,el⟩:∃ l,lyA ls k=l:=⟨_,rfl⟩
   have am:=J.out.1.lay k R;have ab:=J.out.1.fit k R;have ap:=J.out.1.inn k R;rw [el] at y0 y1 y2 am ab M V;obtain ⟨s,a,b⟩:=l;simp only [] at y0 y1 y2 ab;obtain ⟨N,eN⟩:∃ N,(F k).1.length=N:=⟨_,rfl⟩
   obtain ⟨bf,ak⟩:∃ x,(F k).2.2.1=x:=⟨_,rfl⟩
   obtain ⟨la,ao⟩:∃ x,(F k).2.2.2=x:=⟨_,rfl⟩
   rw [eN,ak,ao] at M;rw [eN] at ar;rw [ak,ao]
   have cL:Hid (∀ W,Below wr.heap.size wr W->Calls Tryz.prog 50 #[.pointer (some ⟨w.heap.size+1,0,none⟩),.agg #[.string s,.int .i64 a,.int .i64 b],.slice a3 b3 d3,.int .i64 bf,.int .i64 la] W fun e w'=>e = .returned (.int .i64 (F (k+1)).2.2.2)/\PlanO B w' w' (w.heap.size+1) (F (k+1)).1 (F (k+1)).2.1/\Rn B W w'):=fun W hW=>by
    have hR:Rn B w W:=O.out.2.trans (Rn.of O.out.1.size hW);have:=m_6 B (w.heap.size+1) N (F k).1 (F k).2.1 eN (by omega) s a b am (shA S k) ap ab (V.2 R) (by have h7:=V.1;have h8:=h_a (ls:=ls) (S:=S) (i:=k) (fun j hj=>J.out.1.inn j (by omega)) (fun j hj=>J.out.1.lay j (by omega));have h9:=J.out.2.2.2.2.2.2.2.1;omega) a3 b3 d3 bf la W (O.out.1.up hW).on (aA.up hR);rw [M];exact this
   have aQ:Hid ((F (k+1)).2.2.1=la):=by show _=_;rw [M]
   have aV:=a_g y0;have aX:=a_g s3;clear M ar V am ab ap aK aA el eN ak ao;go_wp2;generalize aj:World.alloc _ _=W2;have ag:Hid (Below wr.heap.size wr W2):=by rw [<- aj];exact a_b wr _
   obtain ⟨e0,e1,e2⟩:W2.cell? ⟨wr.heap.size,0,none⟩=some (.string s)/\W2.cell? ⟨wr.heap.size,1,none⟩=some (.int .i64 a)/\W2.cell? ⟨wr.heap.size,2,none⟩=some (.int .i64 b):=by rw [<- aj];simp [go_sem]
   replace s3:=a_h ag.out s3;have aW:=a_g e0;have aN:=a_g s3;clear aj y0 y1 y2;refine l_F [] 9 47 (by kernel_rfl) rfl rfl 0 _ rfl (by decide) rfl (by kernel_rfl) (by kernel_rfl) (fun _ _ _ _ h=>h) (by rfl) ?_ ?_
   ·intro e he;simp at he
   apply Exists.intro;refine ⟨?yl1,?wk1,?pk1,?rest1⟩
   case wk1=>
    intro x;simp only [List.take_succ_cons,List.take_zero]
    iterate 9
     refine a_l rfl rfl ?_;apply Exists.intro;refine ⟨fun F hF hf K hK=>?_,?_⟩
     ·have hFc:=hF.cell;have hFf:=hF.frozen
      go_big_quiet_op
      first|exact hK|(apply Exists.intro;refine ⟨fun _=>?_,?_⟩;(· fail);exact hK)
     (try simp only [Act.put,sA_,sB_,sC_])
    refine b_c ?_;exact rfl
   case pk1=>
    intro x;simp only [b_l,List.foldl_cons,List.foldl_nil,Act.put,sA_,sB_,sC_]
   case yl1=>
    intro x hx;have e9:True:=trivial;refine ⟨.int .i64 la,fun t ht=>?_,.inl ⟨by rfl,fun w=>?_⟩⟩
    ·cases ht;rfl
    ·simp [execOp,Act.eval,e9,go_sem]
   intro w9 xs au hf;simp only [List.drop_succ_cons,List.drop_zero];have ai:Hid (Below wr.heap.size wr w9):=a_c ag.out au;clear hf au e0 e1 e2 s3 aN;go_wp2_with fail
   refine (cL.out w9 ai.out).mono ?_;rintro e w2 ⟨rfl,aL,aC⟩;have aP:Hid (PlanO B w2 w2 (w.heap.size+1) (F (k+1)).1 (F (k+1)).2.1/\Rn B w w2):=⟨aL,(O.out.2.trans (Rn.of O.out.1.size ai.out)).trans aC⟩
   clear aL aC cL O ai ag;go_wp2;go_roundg (H - (k+1))
   case measure=>omega
   case rel=>exact ⟨k+1,by omega,rfl,by rw [aQ.out],rfl,by first|rfl|simp,aP⟩
  ·obtain rfl:k=H:=by omega
   have ax:=J.out.2.2.2.2.2.2.2.2.2;obtain ⟨hb,hr,q,m,r,pR,nR,cR,xs,h1,h3,h4,h5,_⟩:=O.out.1;obtain ⟨⟨x0,_⟩,_⟩:=e_q h1
   have HE:Hid ((F ls.length).1.length=m/\wr.ownsRow B 121 7 (.slice q m r) m xs/\StsC B wr (F ls.length).1 xs/\Rn B w wr):=by
    rw [ax];exact ⟨h4,by rw [h4] at h3;exact h3,h5,O.out.2⟩
   clear hb hr h1 h3 h4 h5 ax;go_wp2;go_ret;exact ⟨_,_,_,_,rfl,HE.out⟩
end Go.Proofs.YtcpbhhlepdgdkaaGreatDoor.Wd
