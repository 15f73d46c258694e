/- What losses lay on a tape, as the docume -/
import Derived.Test.YtkfpainpomobfaaGreatDoorR15
import Derived.Deep.CutBlock
set_option linter.unusedVariables false
set_option linter.unusedSimpArgs false
set_option maxHeartbeats 16000000
set_option maxRecDepth 16000
namespace Go.Proofs.YtkfpainpomobfaaGreatDoor.Wd
open Go.RowKit Fx List World Nat
theorem s_O:RI []:=fun y A=>by simp at A
/-- Nodes behind others. -/
theorem r_t {ns A:List Nd} {i:Int} (h:0<=i/\i < (ns.length:Int)):ndN (ns++A) i=ndN ns i:=by
 unfold ndN;rw [getD_eq_getElem?_getD,getD_eq_getElem?_getD,getElem?_append_left (by omega)]
theorem r_u (ns:List Nd) (nd:Nd):ndN (ns++[nd]) (ns.length:Int)=nd:=by
 unfold ndN;rw [getD_eq_getElem?_getD,Int.toNat_natCast,getElem?_append_right (Nat.le_refl _),Nat.sub_self];rfl
theorem r_v {ns:List Nd} {d x:List Int} (h:ns.length < 512) (p:isP d x):e_T ns d x=0/\f_f ns d x=(ns.length:Int)/\e_o ns d x=ns++[⟨1,-1,-1,0,d,x⟩]:=
 ⟨(if_neg (by omega)).trans (if_pos p),if_pos ⟨h,p⟩,if_pos ⟨h,p⟩⟩
theorem t_Z {ns:List Nd} {op a b k:Int} (h:ns.length < 512) (E:okD ns op a b) (A:dE ns op a b k=0):doE ns op a b k=0/\doR ns op a b k=(ns.length:Int)/\doN ns op a b k=ns++[dN ns op a b k]:=by
 have H:doP ns op a b k:=⟨⟨h,E⟩,A⟩
 exact ⟨(if_neg (by omega)).trans ((if_pos E).trans A),if_pos H,if_pos H⟩
theorem r_w {a:Int} (H:1<=a) (h:a<=4096):goodN (ntl [a])/\(a_f (ntl [a]):Int)=a:=by
 obtain ⟨A,rfl⟩:=Int.eq_ofNat_of_zero_le (show 0<=a by omega);rw [show ntl [(A:Int)] = [A] from a_n [A]];refine ⟨⟨by simp,fun y E=>by simp at E;omega,by simp [a_f];omega⟩,by simp [a_f]⟩
theorem s_P {a b:Int} (H:1<=a) (hb:1<=b) (h:a*b<=4096):goodN (ntl [a,b])/\(a_f (ntl [a,b]):Int)=a*b:=by
 obtain ⟨A,rfl⟩:=Int.eq_ofNat_of_zero_le (show 0<=a by omega);obtain ⟨B,rfl⟩:=Int.eq_ofNat_of_zero_le (show 0<=b by omega);rw [show ntl [(A:Int),(B:Int)] = [A,B] from a_n [A,B]];refine ⟨⟨by simp,fun y E=>by simp at E;omega,?_⟩,by simp [a_f]⟩;simp only [a_f,Nat.mul_one];exact Int.ofNat_le.1 (by rw [Int.natCast_mul];exact h)
theorem t_0 {a b c:Int} (I:1<=a) (hb:1<=b) (H:1<=c) (h:a*b*c<=4096):goodN (ntl [a,b,c])/\(a_f (ntl [a,b,c]):Int)=a*b*c:=by
 obtain ⟨A,rfl⟩:=Int.eq_ofNat_of_zero_le (show 0<=a by omega);obtain ⟨B,rfl⟩:=Int.eq_ofNat_of_zero_le (show 0<=b by omega);obtain ⟨C,rfl⟩:=Int.eq_ofNat_of_zero_le (show 0<=c by omega);rw [show ntl [(A:Int),(B:Int),(C:Int)] = [A,B,C] from a_n [A,B,C]];refine ⟨⟨by simp,fun y E=>by simp at E;omega,?_⟩,by simp [a_f,Nat.mul_assoc,Int.mul_assoc]⟩;simp only [a_f,Nat.mul_one,<- Nat.mul_assoc];exact Int.ofNat_le.1 (by rw [Int.natCast_mul,Int.natCast_mul];exact h)
theorem InOk.good {d:List Int} (h:InOk d):goodN (ntl d)/\(a_f (ntl d):Int)=a_o d:=by
 have hp:=h.prod;rcases h with ⟨x,rfl,h⟩|⟨x,y,rfl,A,E⟩
 ·rw [b_m];exact r_w h.1 (by omega)
 ·rw [b_n] at hp ⊢;exact s_P A.1 E.1 hp.2
theorem i_B {D X:List Int} {m:Int} (h:goodN (ntl D)/\(a_f (ntl D):Int)=m) (A:(X.length:Int)=m):isP D X:=⟨h.1,by omega⟩
theorem r_x {D X:List Int} {m:Int} (h:goodN (ntl D)/\(a_f (ntl D):Int)=m) (A:isP D X):(X.length:Int)=m:=by
 have:=A.2;omega
/-- What the table says where all fits. -/
abbrev RkO (op:Int) (D X D' X':List Int) (k:Int) (O:List Int):Prop:=rkE op D X D' X' k=0/\rkD op D X D' X' k=O
theorem k_w {D X D' X':List Int} {a b:List Nat} (H:D=itl a) (E:D'=itl b) (h:isP D X) (A:isP D' X') (hf:b_R a b) (O:goodN (joinN a b)):c_8 D X D' X'=0/\d_l D X D' X'=itl (joinN a b):=by
 have L:goodN a:=by have:=h.1;rwa [H,a_n] at this
 have M:goodN b:=by have:=A.1;rwa [E,a_n] at this
 obtain ⟨I,J⟩:=c_U L M hf O;rw [<- H,<- E] at I J;exact ⟨(if_pos ⟨h,A⟩).trans J,(if_pos ⟨h,A⟩).trans I⟩
theorem n_w {D X X':List Int} (h:isP D X) (I:isP D X'):RkO 2 D X D X' 0 D:=by
 obtain ⟨hf,A⟩:=l_Z (ntl D);have e:D=itl (ntl D):=(f_N h.1.2.1).symm;obtain ⟨H,E⟩:=k_w e e h I hf (by rw [A];exact h.1);rw [A,<- e] at E;exact ⟨H,E⟩
theorem s_Q {a k:Int} {X X':List Int} (R:1<=a) (O:1<=k) (h:isP [a,k] X) (I:isP [k] X'):RkO 4 [a,k] X [k] X' 0 [a,k]:=by
 obtain ⟨A,rfl⟩:=Int.eq_ofNat_of_zero_le (show 0<=a by omega);obtain ⟨K,rfl⟩:=Int.eq_ofNat_of_zero_le (show 0<=k by omega)
 have H:joinN [A,K] [K] = [A,K]:=by
  show e_e 2 _=_;simp [e_e,a_u,range_succ];omega
 have hf:b_R [A,K] [K]:=fun i M J=>by
  rcases (show i=1∨i=2 by simp at J;omega) with rfl|rfl <;> simp [a_u,c_0]
 have e:[(A:Int),(K:Int)]=itl [A,K]:=rfl;obtain ⟨L,E⟩:=k_w e (b:=[K]) rfl h I hf (by rw [H];have:=h.1;rwa [e,a_n] at this);rw [H,<- e] at E;exact ⟨L,E⟩
theorem s_R {a k:Int} {X:List Int} (E:1<=a) (h:isP [a,k] X):RkO 8 [a,k] X [] [] 1 [a]:=by
 obtain ⟨A,rfl⟩:=Int.eq_ofNat_of_zero_le (show 0<=a by omega);have hp:smP [(A:Int),k] X 1:=⟨h,by omega,by simp⟩
 refine ⟨if_pos hp,(show rkD 8 _ X [] [] 1=smD _ X 1 from rfl).trans ((if_pos hp).trans ?_)⟩;simp [a_R,ntl,itl]
theorem s_S {r l o v:Int} {X X':List Int} (J:1<=v/\v<=l) (M:1<=o) (h:isP [r,l] X) (L:isP [o,r,v] X') (E:goodN (ntl [o,l - v+1])):RkO 12 [r,l] X [o,r,v] X' 1 [o,l - v+1]:=by
 have A:rwA [r,l] X [o,r,v] X' 1:=⟨h,L,by omega,by omega⟩
 have I:rwS [r,l] [o,r,v]:=⟨rfl,rfl,rfl,by simpa using J.2⟩
 have H:rwO [r,l] [o,r,v] 1 = [o,l - v+1]:=by
  simp [rwO,b_B];omega
 refine ⟨(show rkE 12 _ X _ X' 1=rwE _ X _ X' 1 from rfl).trans ?_,(show rkD 12 _ X _ X' 1=rwD _ X _ X' 1 from rfl).trans ?_⟩
 ·unfold rwE;rw [if_pos A,if_pos I,H];exact if_pos E
 ·unfold rwD;rw [if_pos ⟨A,I⟩,H];exact if_pos E
theorem r_y {c l k:Int} {X:List Int} (E:1<=k/\k<=l) (h:isP [c,l] X):RkO 13 [c,l] X [] [] k [c,Int.tdiv l k]:=by
 have A:plW [c,l] k:=⟨E.1,by simpa using E.2⟩
 refine ⟨(show rkE 13 _ X [] [] k=plE _ X k from rfl).trans ?_,(show rkD 13 _ X [] [] k=plD _ X k from rfl).trans ?_⟩
 ·unfold plE;rw [if_pos h,if_pos (show [c,l].length=2 from rfl),if_pos A]
 ·unfold plD;rw [if_pos ⟨h,rfl,A⟩];obtain ⟨L,rfl⟩:=Int.eq_ofNat_of_zero_le (show 0<=l by omega);obtain ⟨K,rfl⟩:=Int.eq_ofNat_of_zero_le (show 0<=k by omega);simp
theorem r_z {D X:List Int} {k:Int} (A:1<=k/\k<=5) (h:isP D X):RkO 11 D X [] [] k D:=⟨(show rkE 11 D X [] [] k=f_u k D X from rfl).trans (if_pos ⟨A,h⟩),(show rkD 11 D X [] [] k=f_v k D X from rfl).trans (if_pos ⟨A,h⟩)⟩
theorem r_A {D X:List Int} {m:Int} (h:goodN (ntl D)/\(a_f (ntl D):Int)=m) (A:isP D X) (E:1<=m/\m<=4096):RkO 14 D X [] [] 0 [m]:=by
 have e:=r_x h A;obtain ⟨H,I⟩:=r_w E.1 E.2;refine ⟨(show rkE 14 D X [] [] 0=l_c D X [(X.length:Int)] from rfl).trans ?_,(show rkD 14 D X [] [] 0=m_p D X [(X.length:Int)] from rfl).trans ?_⟩
 ·rw [e];unfold l_c;rw [if_pos ⟨A,H⟩,if_pos (by omega)]
 ·rw [e];unfold m_p;rw [if_pos ⟨⟨A,H⟩,by omega⟩]
/-- A step that is not refused: what stands behind it. -/
structure Nx (ns:List Nd) (s:Sp) (ms:List Nd) (O:List Int):Prop where
 e:stE 0 ns s=0
 r:stR 0 ns s=(ns.length:Int)
 n:stN 0 ns s=ms
 g:NodesG ms
 l:ms.length=ns.length+1
 k:∀ i,0<=i->i < (ns.length:Int)->ndN ms i=ndN ns i
 d:(ndN ms (ns.length:Int)).D=O
theorem t_1 {ns:List Nd} {i:Int} (h:0<=i/\i < (ns.length:Int)):ndN ns i∈ns:=by
 unfold ndN;rw [getD_eq_getElem?_getD,getElem?_eq_getElem (by omega)];exact getElem_mem _
theorem n_x {ns:List Nd} {i:Int} {D:List Int} (A:NodesG ns) (h:0<=i/\i < (ns.length:Int)) (e:(ndN ns i).D=D):isP D (ndN ns i).X:=by
 subst e;exact (A _ (t_1 h)).1
theorem Nx.of {ns:List Nd} {s:Sp} {nd:Nd} {O:List Int} (E:NodesG ns) (H:RI s.X) (J:stE 0 ns s=0) (L:stR 0 ns s=(ns.length:Int)) (A:stN 0 ns s=ns++[nd]) (V:nd.D=O):∃ M,Nx ns s M O:=
 ⟨ns++[nd],J,L,A,by rw [<- A];exact E.st H,by simp,fun i R I=>r_t ⟨R,I⟩,by rw [r_u];exact V⟩
theorem g_n {ns:List Nd} (A:NodesG ns) (M:ns.length < 512) {D X:List Int} (q:Bool) (p:isP D X) (E:RI X):∃ L,Nx ns ⟨1,0,0,0,D,X,q⟩ L D:=by
 obtain ⟨H,J,I⟩:=r_v M p;exact Nx.of A E ((if_pos rfl).trans H) ((if_pos rfl).trans J) ((if_pos rfl).trans I) rfl
theorem s_T {ns:List Nd} (H:NodesG ns) (L:ns.length < 512) {op a b k:Int} {O:List Int} (E:okD ns op a b) (h:RkO op (ndN ns a).D (ndN ns a).X (dD ns op b) (dX ns op b) (dK op k) O):∃ R,Nx ns (spD op a b k) R O:=by
 obtain ⟨J,M,I⟩:=t_Z (k:=k) L E h.1;have A:¬ op=1:=by have:=E.1;omega
 refine Nx.of (nd:=dN ns op a b k) H s_O ((if_neg A).trans ?_) ((if_neg A).trans ?_) ((if_neg A).trans ?_) h.2
 ·simpa using J
 ·simpa using M
 ·simpa using I
theorem k_x {ns:List Nd} (H:NodesG ns) (M:ns.length < 512) {op a k:Int} {D O:List Int} (A:2<=op/\op<=14) (E:¬ d_H op) (I:0<=a/\a < (ns.length:Int)) (J:(ndN ns a).D=D) (h:∀ X,isP D X->RkO op D X [] [] (dK op k) O):∃ L,Nx ns (spD op a 0 k) L O:=by
 refine s_T H M ⟨A,I,fun c=>absurd c E⟩ ?_;rw [show dD ns op 0 = [] from if_neg E,show dX ns op 0 = [] from if_neg E,J];exact h _ (n_x H I J)
theorem k_y {ns:List Nd} (E:NodesG ns) (R:ns.length < 512) {op a b k:Int} {D D' O:List Int} (H:2<=op/\op<=14) (L:d_H op) (I:0<=a/\a < (ns.length:Int)) (hb:0<=b/\b < (ns.length:Int)) (J:(ndN ns a).D=D) (A:(ndN ns b).D=D') (h:∀ X X',isP D X->isP D' X'->RkO op D X D' X' (dK op k) O):∃ M,Nx ns (spD op a b k) M O:=by
 refine s_T E R ⟨H,I,fun _=>hb⟩ ?_;rw [show dD ns op b=(ndN ns b).D from if_pos L,show dX ns op b=(ndN ns b).X from if_pos L,J,A];exact h _ _ (n_x E I J) (n_x E hb A)
/-- Steps one behind the other, none of them refused. -/
def Py:List Nd->List Sp->List Nd->Prop
 | ns,[],ms=>ms=ns
 | ns,s :: r,ms=>∃ m1 O,Nx ns s m1 O/\Py m1 r ms
theorem Py.go {ns A E:List Nd} {s:Sp} {r:List Sp} {O:List Int} (h:Nx ns s A O) (H:Py A r E):Py ns (s :: r) E:=⟨A,O,h,H⟩
theorem Py.app {A ks:List Nd} {b:List Sp}:∀ {a:List Sp} {ns:List Nd},Py ns a A->Py A b ks->Py ns (a++b) ks
 | [],_,h,h2=>by
  obtain rfl:A=_:=h;exact h2
 | s :: r,ns,⟨m1,O,h,h1⟩,h2=>⟨m1,O,h,Py.app h1 h2⟩
theorem Py.len {A:List Nd}:∀ {a:List Sp} {ns:List Nd},Py ns a A->A.length=ns.length+a.length
 | [],_,h=>by
  obtain rfl:A=_:=h;rfl
 | s :: r,ns,⟨m1,O,h,h1⟩=>by
  rw [Py.len h1,h.l,length_cons];omega
theorem Py.keep {A:List Nd} {i:Int} (E:0<=i):∀ {a:List Sp} {ns:List Nd},Py ns a A->i < (ns.length:Int)->ndN A i=ndN ns i
 | [],_,h,_=>by
  obtain rfl:A=_:=h;rfl
 | s :: r,ns,⟨m1,O,h,h1⟩,hi=>by
  have:=h.l;rw [Py.keep E h1 (by omega),h.k i E hi]
theorem r_B {l:Ly} {d:List Int} (h:o_g l d=false):∀ i,i < (b_L l d).length->a_o (shA (b_L l d) i)<=4096:=fun i A=>by
 unfold o_g at h;rw [any_eq_false] at h
 have E:shA (b_L l d) i∈b_L l d:=by
  unfold shA;rw [getD_eq_getElem?_getD,getElem?_eq_getElem A];exact getElem_mem _
 have:=h _ E;simp only [decide_eq_true_eq] at this;omega
theorem h_z (l:List Int) {n:Int} (A:0<=n) (h:n<=(l.length:Int)):((l.take n.toNat).length:Int)=n:=by
 rw [length_take];omega
/-- A layer's steps over nodes of which the last one has the shape that comes in. -/
theorem r_C {l:Ly} {d o:List Int} (hl:a_L l) (hd:InOk d) (E:c_S l d=some o) (af:o_g l d=false) {ns:List Nd} (hG:NodesG ns) (am:ns.length+6<=512) {rest:List Int} (hr:RI rest) (hs:psz l d<=(rest.length:Int)) {bf last:Int} (ha:0<=last/\last < (ns.length:Int)) (hD:(ndN ns last).D=d) (hb:a_m l.1=4->(0<=bf/\bf < (ns.length:Int))/\(ndN ns bf).D=d):
  ∃ J,Py ns (b_X l d ns.length rest bf last) J/\NodesG J/\c_F l d ns.length < J.length/\(ndN J (c_F l d ns.length:Int)).D=o:=by
 have ak:=hd.out hl E;have hp:=hd.prod;have hg:=hd.good;have ad:=r_B af;obtain ⟨N,R⟩:∃ N,ns.length=N:=⟨_,rfl⟩
 rcases a_s hl with ⟨-,k,H,g2⟩|⟨-,k,H,g2⟩|⟨-,k,H,g2⟩|⟨-,k,H,g2⟩|⟨-,k,H,g2⟩
 ·have eP:b_L l d = [[l.2.1,a_o d],[l.2.1]]:=if_pos k
  have Z:o = [l.2.1]:=by
   unfold c_S at E;rw [if_pos k] at E;exact (Option.some.inj E).symm
  have h1:l.2.1*a_o d<=4096:=by
   have:=ad 0 (by rw [eP];simp);rw [eP] at this;simpa [shA,b_n] using this
  have h2:=a_S H hp
  have ae:l.2.1*a_o d+l.2.1<=(rest.length:Int):=by
   unfold psz at hs;rwa [if_pos k] at hs
  have eL:b_X l d N rest bf last=spL [l.2.1,a_o d] (rest.take (l.2.1*a_o d).toNat) :: spL [l.2.1] ((rest.drop (l.2.1*a_o d).toNat).take l.2.1.toNat) :: l_r (decide (d.length=2)) (N+2) (N:Int) ((N+1:Nat):Int) last:=by
   unfold b_X;rw [eP,if_pos k];simp [prS,shA,b_n,b_m]
  have eK:c_F l d N=l_s (decide (d.length=2)) (N+2):=if_pos k;have gm:=s_P H.1 hp.1 h1;have gr:=r_w H.1 (by omega);rw [R,eL,eK];obtain ⟨V,A⟩:=g_n hG (by omega) true (i_B gm (h_z rest (by omega) (by omega))) (hr.takes _);have l1:V.length=N+1:=by rw [A.l,R]
  obtain ⟨m2,L⟩:=g_n (X:=(rest.drop (l.2.1*a_o d).toNat).take l.2.1.toNat) A.g (by omega) true (i_B gr (h_z (rest.drop (l.2.1*a_o d).toNat) (by omega) (by rw [length_drop];omega))) ((hr.drops _).takes _);have l2:m2.length=N+2:=by rw [L.l,l1]
  have ac:(ndN m2 last).D=d:=by rw [L.k _ ha.1 (by omega),A.k _ ha.1 (by omega)];exact hD
  have dm:(ndN m2 (N:Int)).D = [l.2.1,a_o d]:=by rw [L.k (N:Int) (by omega) (by omega),<- R];exact A.d
  have dr:(ndN m2 ((N+1:Nat):Int)).D = [l.2.1]:=by rw [<- l1];exact L.d
  have aa:∀ (m:List Nd) (M:Nat) (v:Int),NodesG m->m.length=M->N+2<=M->M<=N+3->(0<=v/\v < (M:Int))->(ndN m v).D = [a_o d]->(ndN m (N:Int)).D = [l.2.1,a_o d]->(ndN m ((N+1:Nat):Int)).D = [l.2.1]->∃ J,Py m [spD 4 (N:Int) v 0,spD 8 (M:Int) 0 1,spD 2 ((M+1:Nat):Int) ((N+1:Nat):Int) 0] J/\NodesG J/\M+2 < J.length/\(ndN J ((M+2:Nat):Int)).D=o:=by
   intro m M v al eM b1 b2 hv dv dm dr;obtain ⟨m3,O⟩:=k_y (op:=4) (k:=0) al (by omega) (by omega) (.inr (.inr (.inl rfl))) (show 0<=(N:Int)/\(N:Int) < (m.length:Int) by omega) (show 0<=v/\v < (m.length:Int) by omega) dm dv (fun X X' h h'=>s_Q H.1 hp.1 h h');have l3:m3.length=M+1:=by rw [O.l,eM]
   obtain ⟨m4,n4⟩:=k_x (op:=8) (k:=1) O.g (by omega) (by omega) (by unfold d_H;omega) (show 0<=(M:Int)/\(M:Int) < (m3.length:Int) by omega) (by rw [<- eM];exact O.d) (fun X h=>s_R H.1 h);have l4:m4.length=M+2:=by rw [n4.l,l3]
   have d4:(ndN m4 ((M+1:Nat):Int)).D = [l.2.1]:=by rw [<- l3];exact n4.d
   obtain ⟨m5,n5⟩:=k_y (op:=2) (k:=0) n4.g (by omega) (by omega) (.inl rfl) (show 0<=((M+1:Nat):Int)/\((M+1:Nat):Int) < (m4.length:Int) by omega) (show 0<=((N+1:Nat):Int)/\((N+1:Nat):Int) < (m4.length:Int) by omega) d4 (by rw [n4.k ((N+1:Nat):Int) (by omega) (by omega),O.k ((N+1:Nat):Int) (by omega) (by omega)];exact dr) (fun X X' h h'=>n_w h h');refine ⟨m5,Py.go O (Py.go n4 (Py.go n5 rfl)),n5.g,by rw [n5.l];omega,?_⟩;rw [Z,<- l4];exact n5.d
  by_cases h2:d.length=2
  ·rw [decide_eq_true h2];obtain ⟨m3,O⟩:=k_x (op:=14) (k:=0) L.g (by omega) (by omega) (by unfold d_H;omega) (show 0<=last/\last < (m2.length:Int) by omega) ac (fun X h=>r_A hg h hp);have l3:m3.length=N+3:=by rw [O.l,l2]
   obtain ⟨J,t1,t2,t3,t4⟩:=aa m3 (N+3) ((N+2:Nat):Int) O.g l3 (by omega) (by omega) (by omega) (by rw [<- l2];exact O.d) (by rw [O.k (N:Int) (by omega) (by omega)];exact dm) (by rw [O.k ((N+1:Nat):Int) (by omega) (by omega)];exact dr);exact ⟨J,Py.go A (Py.go L (Py.go O t1)),t2,t3,t4⟩
  ·rw [decide_eq_false h2]
   have ag:d = [a_o d]:=by
    rcases hd with ⟨x,rfl,h⟩|⟨x,y,rfl,hx,hy⟩
    ·rw [b_m]
    ·simp at h2
   obtain ⟨J,t1,t2,t3,t4⟩:=aa m2 (N+2) last L.g l2 (by omega) (by omega) (by omega) (ac.trans ag) dm dr;exact ⟨J,Py.go A (Py.go L t1),t2,t3,t4⟩
 ·have Z:d.length=2/\l.2.2<=d.getD 1 0/\o = [l.2.1,d.getD 1 0 - l.2.2+1]:=by
   unfold c_S at E;rw [if_neg (by omega),if_pos k] at E
   split at E
   ·rename_i h
    exact ⟨h.1,h.2,(Option.some.inj E).symm⟩
   ·cases E
  obtain ⟨r,v,rfl,ab,ah⟩:∃ x y,d = [x,y]/\(1<=x/\x<=64)/\1<=y/\y<=64:=by
   rcases hd with ⟨x,rfl,h⟩|h
   ·simp at Z
   ·exact h
  have I:l.2.2<=v/\o = [l.2.1,v - l.2.2+1]:=by simpa using Z
  have eP:b_L l [r,v] = [[l.2.1,r,l.2.2]]:=by
   unfold b_L;rw [if_neg (by omega),if_pos k];rfl
  have h1:l.2.1*r*l.2.2<=4096:=by
   have:=ad 0 (by rw [eP];simp);rw [eP] at this;simpa [shA,b_o] using this
  have h2:=a_S (a_S H ab) g2
  have ae:l.2.1*r*l.2.2<=(rest.length:Int):=by
   unfold psz at hs;rw [if_neg (by omega),if_pos k] at hs;simpa using hs
  have eL:b_X l [r,v] N rest bf last = [spL [l.2.1,r,l.2.2] (rest.take (l.2.1*r*l.2.2).toNat),spD 12 last (N:Int) 1]:=by
   unfold b_X;rw [eP,if_neg (by omega),if_pos k];simp [prS,shA,b_o]
  have eK:c_F l [r,v] N=N+1:=by
   unfold c_F;rw [if_neg (by omega),if_pos k]
  rw [R,eL,eK];obtain ⟨V,A⟩:=g_n hG (by omega) true (i_B (t_0 H.1 ab.1 g2.1 h1) (h_z rest (by omega) ae)) (hr.takes _);have l1:V.length=N+1:=by rw [A.l,R]
  obtain ⟨m2,L⟩:=k_y (op:=12) (k:=1) A.g (by omega) (by omega) (.inr (.inr (.inr (.inr rfl)))) (show 0<=last/\last < (V.length:Int) by omega) (show 0<=(N:Int)/\(N:Int) < (V.length:Int) by omega) (by rw [A.k _ ha.1 (by omega)];exact hD) (by rw [<- R];exact A.d) (fun X X' h h'=>s_S ⟨g2.1,I.1⟩ H.1 h h' (by rw [<- I.2];exact ak.good.1));refine ⟨m2,Py.go A (Py.go L rfl),L.g,by rw [L.l];omega,?_⟩;rw [I.2,<- l1];exact L.d
 ·have Z:d.length=2/\l.2.1<=d.getD 1 0/\o = [d.getD 0 0,Int.tdiv (d.getD 1 0) l.2.1]:=by
   unfold c_S at E;rw [if_neg (by omega),if_neg (by omega),if_pos k] at E
   split at E
   ·rename_i h
    exact ⟨h.1,h.2,(Option.some.inj E).symm⟩
   ·cases E
  obtain ⟨r,v,rfl,ab,ah⟩:∃ x y,d = [x,y]/\(1<=x/\x<=64)/\1<=y/\y<=64:=by
   rcases hd with ⟨x,rfl,h⟩|h
   ·simp at Z
   ·exact h
  have I:l.2.1<=v/\o = [r,Int.tdiv v l.2.1]:=by simpa using Z
  have eL:b_X l [r,v] N rest bf last = [spD 13 last 0 l.2.1]:=by
   unfold b_X b_L;rw [if_neg (by omega),if_neg (by omega),if_neg (by omega),if_neg (by omega),if_pos k];rfl
  have eK:c_F l [r,v] N=N:=by
   unfold c_F;rw [if_neg (by omega),if_neg (by omega)]
  rw [R,eL,eK];obtain ⟨V,A⟩:=k_x (op:=13) (k:=l.2.1) hG (by omega) (by omega) (by unfold d_H;omega) (show 0<=last/\last < (ns.length:Int) by omega) hD (fun X h=>r_y ⟨H.1,I.1⟩ h);refine ⟨V,Py.go A rfl,A.g,by rw [A.l];omega,?_⟩;rw [I.2,<- R];exact A.d
 ·have Z:o=d:=by
   unfold c_S at E;rw [if_neg (by omega),if_neg (by omega),if_neg (by omega)] at E;exact (Option.some.inj E).symm
  have eL:b_X l d N rest bf last = [spD 11 last 0 l.2.1]:=by
   unfold b_X b_L;rw [if_neg (by omega),if_neg (by omega),if_neg (by omega),if_neg (by omega),if_neg (by omega),if_pos k];rfl
  have eK:c_F l d N=N:=by
   unfold c_F;rw [if_neg (by omega),if_neg (by omega)]
  rw [R,eL,eK];obtain ⟨V,A⟩:=k_x (op:=11) (k:=l.2.1) hG (by omega) (by omega) (by unfold d_H;omega) (show 0<=last/\last < (ns.length:Int) by omega) hD (fun X h=>r_z H h);refine ⟨V,Py.go A rfl,A.g,by rw [A.l];omega,?_⟩;rw [Z,<- R];exact A.d
 ·have Z:o=d:=by
   unfold c_S at E;rw [if_neg (by omega),if_neg (by omega),if_neg (by omega)] at E;exact (Option.some.inj E).symm
  have eL:b_X l d N rest bf last = [spD 2 bf last 0]:=by
   unfold b_X b_L;rw [if_neg (by omega),if_neg (by omega),if_neg (by omega),if_neg (by omega),if_neg (by omega),if_neg (by omega)];rfl
  have eK:c_F l d N=N:=by
   unfold c_F;rw [if_neg (by omega),if_neg (by omega)]
  obtain ⟨ai,aj⟩:=hb k;rw [R,eL,eK];obtain ⟨V,A⟩:=k_y (op:=2) (k:=0) hG (by omega) (by omega) (.inl rfl) ai ha aj hD (fun X X' h h'=>n_w h h');refine ⟨V,Py.go A rfl,A.g,by rw [A.l];omega,?_⟩;rw [Z,<- R];exact A.d
/-- The nodes behind steps. -/
def plN:List Nd->List Sp->List Nd
 | ns,[]=>ns
 | ns,s :: r=>plN (stN 0 ns s) r
theorem Py.eq {A:List Nd}:∀ {a:List Sp} {ns:List Nd},Py ns a A->plN ns a=A
 | [],_,h=>h.symm
 | s :: r,ns,⟨m1,O,h,h1⟩=>by
  show plN (stN 0 ns s) r=A;rw [h.n];exact Py.eq h1
/-- The parameters' nodes among steps from the N-th node on. -/
def pnL:Nat->List Sp->List Int
 | _,[]=>[]
 | N,s :: r=>(if s.par=true then [(N:Int)] else [])++pnL (N+1) r
theorem h_A:∀ (a b:List Sp) (N:Nat),pnL N (a++b)=pnL N a++pnL (N+a.length) b
 | [],b,N=>rfl
 | s :: r,b,N=>by
  show _++pnL (N+1) (r++b)=_;rw [h_A r b (N+1),length_cons,show N+(r.length+1)=N+1+r.length by omega,<- append_assoc];rfl
theorem r_D {sts:List Sp} {i:Nat} (h:i < sts.length):sts.take (i+1)=sts.take i++[spA sts i]/\sts.drop i=spA sts i :: sts.drop (i+1):=by
 have e:spA sts i=sts[i]:=by
  unfold spA;rw [getD_eq_getElem?_getD,getElem?_eq_getElem h];rfl
 rw [e];exact ⟨take_succ_eq_append_getElem h,drop_eq_getElem_cons h⟩
/-- What the code's play makes of steps that are not refused. -/
theorem s_U {sts:List Sp} {ns H:List Nd} (h:Py ns sts H):∀ i,i<=sts.length->∃ m,Py ns (sts.take i) m/\Py m (sts.drop i) H/\pyF 0 sts ns i=(0,m,(if i=0 then 0 else (ns.length:Int)+i - 1),pnL ns.length (sts.take i))
 | 0,_=>⟨ns,rfl,h,rfl⟩
 | i+1,hi=>by
  obtain ⟨m,E,L,R⟩:=s_U h i (by omega);obtain ⟨J,V⟩:=r_D (sts:=sts) (i:=i) (by omega);rw [V] at L;obtain ⟨m1,O,A,Z⟩:=L;have M:=E.len;rw [length_take,Nat.min_eq_left (by omega)] at M;refine ⟨m1,by rw [J];exact E.app (Py.go A rfl),Z,?_⟩;show (if (pyF 0 sts ns i).1=0 then _ else _)=_;rw [R];simp only [if_pos];rw [A.e,A.n,A.r,J,h_A,length_take,Nat.min_eq_left (show i<=sts.length by omega),if_neg (show ¬ i+1=0 by omega),M];have I:((ns.length+i:Nat):Int)=(ns.length:Int)+((i+1:Nat):Int) - 1:=by omega
  rw [I]
  congr 3
  show _=pnL ns.length (sts.take i)++((if (spA sts i).par=true then [((ns.length+i:Nat):Int)] else [])++[]);rw [I]
  split
  ·rw [append_nil]
  ·rw [append_nil,append_nil]
theorem s_V {sts:List Sp} {ns A:List Nd} (h:Py ns sts A) (I:sts≠[]):pyF 0 sts ns sts.length=(0,A,(ns.length:Int)+sts.length - 1,pnL ns.length sts):=by
 obtain ⟨m,J,E,H⟩:=s_U h sts.length (Nat.le_refl _);rw [drop_length] at E;obtain rfl:A=m:=E;rw [H,take_length,if_neg (by intro c;exact I (length_eq_zero_iff.1 c))]
theorem n_y {l:Ly} (H:a_L l) (d:List Int) (N:Nat) (rest:List Int) (bf last:Int):c_F l d N+1=N+(b_X l d N rest bf last).length:=by
 unfold c_F b_X;rw [length_append,j_p];unfold b_L;rcases a_s H with ⟨-,k,A,E⟩|⟨-,k,A,E⟩|⟨-,k,A,E⟩|⟨-,k,A,E⟩|⟨-,k,A,E⟩ <;> rw [k] <;> simp
 unfold l_s l_r
 split <;> simp <;> omega
/-- What a layer lays of parameters. -/
theorem n_z {l:Ly} (H:a_L l) (d:List Int) (N:Nat) (rest:List Int) (bf last:Int):pnL N (b_X l d N rest bf last)=if a_m l.1=0 then [(N:Int),((N+1:Nat):Int)] else if a_m l.1=1 then [(N:Int)] else []:=by
 unfold b_X;rw [h_A];unfold b_L;rcases a_s H with ⟨-,k,A,E⟩|⟨-,k,A,E⟩|⟨-,k,A,E⟩|⟨-,k,A,E⟩|⟨-,k,A,E⟩ <;> rw [k] <;> simp [prS,pnL]
 unfold l_r
 split <;> simp [pnL]
theorem r_E {d:List Int} {ls:List Ly} {n i:Nat} {S:List (List Int)} (h:shN d ls n=some S) (hi:i < n):c_S (lyA ls i) (shA S i)=some (shA S (i+1))/\((lyA ls i).1=d_5->c_G ls S i):=by
 obtain ⟨S1,J,O⟩:=e_m h (show i+1<=n by omega);obtain ⟨L,M,E⟩:=e_m h (show i<=n by omega);rw [a_H M] at J;have I:=c_N M;have A:=J;unfold f_H at A
 split at A
 ·cases A
 ·rename_i H
  obtain ⟨o,Z,e⟩:=Option.map_eq_some_iff.1 A
  have V:shA S (i+1)=o:=by
   rw [O (i+1) (by omega),<- e];exact f_w L o (i+1) I
  rw [E i (by omega),V];refine ⟨Z,fun c=>?_⟩;have:c_G ls L i:=Classical.byContradiction fun R=>H ⟨c,R⟩;refine ⟨this.1,this.2.1,?_⟩;rw [E (i - 1) (by omega),E i (by omega)];exact this.2.2
theorem g_Z {ls:List Ly} {S:List (List Int)}:∀ {n i:Nat},k_Q ls S n=false->i < n->o_g (lyA ls i) (shA S i)=false
 | n+1,i,h,hi=>by
  simp only [k_Q,Bool.or_eq_false_iff] at h;rcases Nat.lt_or_ge i n with A|A
  ·exact g_Z h.1 A
  ·rw [show i=n by omega];exact h.2
theorem n_A {s:ByteArray} (h:a_m s=4):s=d_5:=by
 rcases c_Q s with ⟨_,e⟩|⟨_,e⟩|⟨_,e⟩|⟨_,e⟩|⟨r,_⟩|⟨_,e⟩
 ·omega
 ·omega
 ·omega
 ·omega
 ·exact r
 ·omega
/-- What is known of the nodes behind the first i layers. -/
structure NtF (d:List Int) (ls:List Ly) (S:List (List Int)) (P X:List Int) (i:Nat) (ms:List Nd):Prop where
 py:Py [] (plF d ls S P X i).1 ms
 g:NodesG ms
 l:ms.length=(plF d ls S P X i).1.length
 p1:1<=ms.length
 ra:(plF d ls S P X i).2.2.2+1=(ms.length:Int)
 dd:(ndN ms (plF d ls S P X i).2.2.2).D=shA S i
 bf:0 < i->(0<=(plF d ls S P X i).2.2.1/\(plF d ls S P X i).2.2.1 < (ms.length:Int))/\(ndN ms (plF d ls S P X i).2.2.1).D=shA S (i - 1)
/-- One layer more: what stands behind it. -/
theorem k_z {d:List Int} {ls:List Ly} {S:List (List Int)} {P X:List Int} (hf:b_O d ls=true) (hS:shN d ls ls.length=some S) (O:d_7 ls S=false) (hP:RI P) (R:(P.length:Int)=b_Q ls S ls.length) (hX:RI X) {i:Nat} (E:i < ls.length) {V:List Nd} (h:NtF d ls S P X i V):
  ∃ ks,Py V (b_X (lyA ls i) (shA S i) (plF d ls S P X i).1.length (plF d ls S P X i).2.1 (plF d ls S P X i).2.2.1 (plF d ls S P X i).2.2.2) ks/\NtF d ls S P X (i+1) ks:=by
 have H:=NetOk.of hf hS;have M:InOk d:=((b_a d ls).1 hf).1;unfold d_7 at O;simp only [Bool.or_eq_false_iff,decide_eq_false_iff_not] at O;obtain ⟨⟨⟨t1,t2⟩,t3⟩,t4⟩:=O;obtain ⟨o1,o2⟩:=r_E hS E;have hN:=d_J d ls S P X i;obtain ⟨_,L,_,_,_⟩:=i_A (P:=P) (X:=X) H (by omega) M.ri hP hX i (by omega);have A:=(f_D (X:=X) H R i (by omega)).2 E;have J:=h.l;have ab:=h.ra
 have h1:1<=(plF d ls S P X i).1.length:=by
  cases i with
  | zero=>simp [plF]
  | succ j => 
   have:=n_y (H.lay j (by omega)) (shA S j) (plF d ls S P X j).1.length (plF d ls S P X j).2.1 (plF d ls S P X j).2.2.1 (plF d ls S P X j).2.2.2;simp only [plF,length_append];omega
 obtain ⟨ks,I,p2,p3,p4⟩:=r_C (H.lay i E) (H.inn i E) o1 (g_Z t3 E) h.g (by omega) L A (bf:=(plF d ls S P X i).2.2.1) (last:=(plF d ls S P X i).2.2.2) (by omega) h.dd (fun k=>by
  have sk:=o2 (n_A k);obtain ⟨b1,b2⟩:=h.bf sk.1;exact ⟨b1,b2.trans sk.2.2⟩)
 rw [J] at I p3 p4;have Z:=I.len;have aa:=n_y (H.lay i E) (shA S i) (plF d ls S P X i).1.length (plF d ls S P X i).2.1 (plF d ls S P X i).2.2.1 (plF d ls S P X i).2.2.2;refine ⟨ks,I,⟨?_,p2,?_,by omega,?_,p4,fun _=>⟨⟨?_,?_⟩,?_⟩⟩⟩
 ·exact h.py.app I
 ·show ks.length=((plF d ls S P X i).1++_).length;rw [length_append];omega
 ·show (c_F (lyA ls i) (shA S i) (plF d ls S P X i).1.length:Int)+1=_;omega
 ·show 0<=(plF d ls S P X i).2.2.2;omega
 ·show (plF d ls S P X i).2.2.2 < _;omega
 ·show (ndN ks (plF d ls S P X i).2.2.2).D=_;rw [I.keep (by omega) (by omega)];exact h.dd
theorem n_B {d:List Int} {ls:List Ly} {S:List (List Int)} {P X:List Int} (hf:b_O d ls=true) (J:shN d ls ls.length=some S) (M:d_7 ls S=false) (R:RI P) (E:(P.length:Int)=b_Q ls S ls.length) (I:RI X) (H:(X.length:Int)=a_o d):∀ i,i<=ls.length->∃ O,NtF d ls S P X i O
 | 0,_=>by
  have L:InOk d:=((b_a d ls).1 hf).1;obtain ⟨m1,A⟩:=g_n (ns:=[]) (fun nd h=>by simp at h) (by simp) false (i_B L.good H) I
  have V:shA S 0=d:=by
   obtain ⟨S0,h0,Z⟩:=e_m J (zero_le _);cases h0;exact Z 0 (by omega)
  refine ⟨m1,Py.go A rfl,A.g,A.l,by rw [A.l];simp,?_,?_,fun h=>absurd h (by omega)⟩
  ·rw [A.l];rfl
  ·rw [V];exact A.d
 | i+1,hi=>by
  obtain ⟨O,h⟩:=n_B hf J M R E I H i (by omega);obtain ⟨ks,_,h2⟩:=k_z hf J M R E I (by omega) h;exact ⟨ks,h2⟩
/-- What Run makes of a net that may be, and as many numbers as it has. -/
theorem q_j {d:List Int} {ls:List Ly} {P X:List Int} (Z:nE d ls=0) (R:RI P) (A:(P.length:Int)=b_Q ls (nS d ls) ls.length) (O:RI X) (H:(X.length:Int)=a_o d):∃ E,NtF d ls (nS d ls) P X ls.length E/\rnF d ls [] P X=(0,E,(plF d ls (nS d ls) P X ls.length).2.2.2,pnL 0 (plF d ls (nS d ls) P X ls.length).1):=by
 obtain ⟨S,hf,M,I⟩:=c_H Z;have V:=(h_O hf M I).2.1;rw [V] at A ⊢;obtain ⟨E,h⟩:=n_B hf M I R A O H ls.length (Nat.le_refl _);refine ⟨E,h,?_⟩;have hN:=d_J d ls S P X ls.length
 have J:ls.length<=16:=by
  unfold d_7 at I;simp only [Bool.or_eq_false_iff,decide_eq_false_iff_not] at I;omega
 have aa:=h.ra;have hl:=h.l
 have L:(plF d ls S P X ls.length).1≠[]:=fun c=>by
  have hm:E.length=0:=by rw [hl,c];rfl
  have:=(i_A (P:=P) (X:=X) (NetOk.of hf M) J ((b_a d ls).1 hf).1.ri R O ls.length (Nat.le_refl _)).2.2.2.1;omega
 have e:=s_V h.py L;unfold rnF;rw [if_pos Z,V,if_pos ⟨A,H⟩,if_pos (by simp;omega)];simp only [length_nil,Int.natCast_zero] at e ⊢;rw [e];simp only [if_pos];rw [show (0:Int)+((plF d ls S P X ls.length).1.length:Int) - 1=(plF d ls S P X ls.length).2.2.2 by omega]
theorem g_0 {W:World} {H I M:Nat} {J:Option Addr} {D:List Int} (h:OwnK .i64 3 W H (.slice J I M) D):∀ A m c,Value.slice J I M = .slice (some A) m c->H<=A.block:=fun A m c e=>by
 rcases h.2 with ⟨L,_⟩|⟨g,R,O,E,hb,_⟩
 ·rw [e] at L;cases L
 ·rw [e] at E;cases E;exact hb
/-- No node's dims lie in block x. -/
def AvG (TT:TypeId) (x:Nat) (W:World) (tb:Nat):Prop:=∃ v,W.heap[tb]?=some (.cells #[v] TT (0,0))/\∀ g m c,v = .slice (some ⟨g,0,none⟩) m c->g < W.heap.size/\∀ i,i < m->∀ ad m' c',W.cell? ⟨g,i*6+4,none⟩=some (.slice (some ad) m' c')->ad.block≠x
def SpG (TT:TypeId) (H tb:Nat) (w w':World):Prop:=∀ x,x < H->AvG TT x w tb->AvG TT x w' tb
theorem AvG.up {TT:TypeId} {x A:Nat} {W W':World} (h:AvG TT x W A) (E:Bw W W'):AvG TT x W' A:=by
 obtain ⟨v,H,h⟩:=h;refine ⟨v,(E.block A (a_k H)).trans H,fun g m c e=>?_⟩;obtain ⟨I,M⟩:=h g m c e;refine ⟨Nat.lt_of_lt_of_le I E.size,fun i L O R V J=>M i L O R V ?_⟩;unfold cell? at J ⊢;rw [<- E.block g I];exact J
theorem k_A {TT NT:TypeId} (aa:NT≠TT) {w6 w8:World} {B J N Z c8 H x:Nat} {pL:Option Addr} {A u:List Value} {s:Value} (af:w6.heap[J]?=some (.cells #[.slice pL N Z] TT (0,0))) (V:w6.ownsRow B NT 6 (.slice pL N Z) N A) (hl:A.length=N*6) (M:w8.heap[J]?=some (.cells #[.slice pL N Z] TT (0,0)))
  (E:w8.ownsRow B NT 6 (.slice (some ⟨H,0,none⟩) (N+1) c8) (N+1) (A++u)) (hu:u[4]?=some s) (hs:∀ L m c,s = .slice (some L) m c->L.block≠x) (I:AvG TT x w6 J):AvG TT x (w8.setCell ⟨J,0,none⟩ (.slice (some ⟨H,0,none⟩) (N+1) c8)) J:=by
 obtain ⟨v,hv,I⟩:=I;rw [af] at hv;cases hv;have ae:H≠J:=fun e=>b_U aa M E (by rw [<- e];rfl);refine ⟨_,(a_l M).trans rfl,fun g m c e=>?_⟩;cases e;refine ⟨by have:=(ownsRow.lt E H rfl).2;simpa using this,fun i hi L m' c' hc=>?_⟩
 have O:w8.cell? ⟨H,i*6+4,none⟩=some (.slice (some L) m' c'):=by
  unfold cell? at hc ⊢;rw [a_1 _ _ _ _ _ ae] at hc;exact hc
 by_cases ab:i < N
 ·have hj:i*6+4 < A.length:=by omega
  obtain ⟨z,hz⟩:∃ z,A[i*6+4]?=some z:=⟨_,getElem?_eq_getElem hj⟩
  have R:=E.cells (g:=H) rfl (i*6+4) z (by rw [getElem?_append_left hj];exact hz);rw [a_r,Nat.zero_add,O] at R;cases R;rcases V.2 with ⟨h0,h1⟩|⟨g,ag,ah,hv,hb,hg,rest⟩
  ·omega
  ·cases hv;have h6:=V.cells (g:=g) rfl (i*6+4) _ hz;rw [a_r,Nat.zero_add] at h6;exact (I g N Z rfl).2 i ab L m' c' h6
 ·have ac:i=N:=by omega
  subst ac;have R:=E.cells (g:=H) rfl (i*6+4) s (by rw [getElem?_append_right (by omega),hl,Nat.add_sub_cancel_left];exact hu);rw [a_r,Nat.zero_add,O] at R;cases R;exact hs L m' c' rfl
/-- A node's dims lie below the heap's end. -/
theorem Tap.avg {TT NT:TypeId} {W:World} {B H x:Nat} {ns:List Nd} (h:Tap TT NT W B H ns) (hx:W.heap.size<=x):AvG TT x W H:=by
 obtain ⟨p,c,xs,Z,I,O,_⟩:=Tap.head h;refine ⟨_,Z,fun g m c' e=>?_⟩;cases e;refine ⟨(ownsRow.lt I g rfl).2,fun i V ad m' aa R=>?_⟩;obtain ⟨q,nd,s,t,e,_,_,_,_,_,J,_,M,_⟩:=b_x I O rfl i V;cases e;rw [R] at J;cases J;rcases M.2 with ⟨h0,_⟩|⟨g2,L,ab,E,_,A,_⟩
 ·cases h0
 ·cases E;have:=a_k A;intro e;have e':g2=x:=e;omega
/-- A row of ints of another's may grow. -/
theorem Tap.beside {TT NT:TypeId} (nT:TT≠3) (nN:NT≠3) {W W':World} {B tb r:Nat} {ns:List Nd} {cs:Array Value} {fz:Nat×Nat} (h:Tap TT NT W B tb ns) (hg:W.grownBy W' (some r)) (hr:W.heap[r]?=some (.cells cs 3 fz)) (ha:AvG TT r W tb):Tap TT NT W' B tb ns:=by
 have hk:∀ (k:Nat) (M:Array Value) (e:TypeId) (J:Nat×Nat),W.heap[k]?=some (.cells M e J)->e≠3->W'.heap[k]?=some (.cells M e J):=fun k M e J R h2=>by
  rw [hg.block k (a_k R) (fun e'=>by cases e';rw [hr] at R;cases R;exact h2 rfl)];exact R
 obtain ⟨hb,v,xs,hv,ho,hn⟩:=h
 have aa:W'.ownsRow B NT 6 v ns.length xs:=by
  refine ⟨ho.1,?_⟩;rcases ho.2 with hn|⟨g,A,E,hv,hb,hg,rest⟩
  ·exact .inl hn
  ·exact .inr ⟨g,A,E,hv,hb,hk _ _ _ _ hg nN,rest⟩
 refine ⟨hb,v,xs,hk _ _ _ _ hv nT,aa,hn.1,fun i nd hi=>?_⟩;obtain ⟨s,t,e,hs,ht⟩:=hn.2 i nd hi;refine ⟨s,t,e,⟨hs.1,?_⟩,⟨ht.1,?_⟩⟩
 ·rcases hs.2 with O|⟨g,A,E,H,L,I,rest⟩
  ·exact .inl O
  ·refine .inr ⟨g,A,E,H,L,?_,rest⟩;rw [hg.block g (a_k I) (fun e'=>?_)]
   ·exact I
   ·cases e';obtain ⟨v',V,ad⟩:=ha;rw [hv] at V;cases V
    have ac:i < ns.length:=by
     rcases Nat.lt_or_ge i ns.length with h|h
     ·exact h
     ·rw [getElem?_eq_none h] at hi;cases hi
    have hx:xs[i*6+4]?=some s:=by
     have Z:((xs.drop (i*6)).take 6)[4]?=some s:=by rw [e];rfl
     rw [getElem?_take] at Z
     split at Z
     ·rw [getElem?_drop] at Z;exact Z
     ·cases Z
    rcases ho.2 with ⟨_,R⟩|⟨g2,ae,af,ab,_,_,_⟩
    ·omega
    ·subst ab;have h6:=ho.cells (g:=g2) rfl (i*6+4) _ hx;rw [a_r,Nat.zero_add,H] at h6;exact (ad g2 _ _ rfl).2 i ac _ _ _ h6 rfl
 ·rcases ht.2 with O|⟨g,A,E,H,L,I,rest⟩
  ·exact .inl O
  ·exact .inr ⟨g,A,E,H,L,hk _ _ _ _ I (by decide),rest⟩
theorem AvG.beside {TT NT:TypeId} (nT:TT≠3) (nN:NT≠3) {W W':World} {J r x B:Nat} {ns:List Nd} {cs:Array Value} {fz:Nat×Nat} (h:AvG TT x W J) (hT:Tap TT NT W B J ns) (hg:W.grownBy W' (some r)) (hr:W.heap[r]?=some (.cells cs 3 fz)):AvG TT x W' J:=by
 obtain ⟨v,V,h⟩:=h;have H:∀ (k:Nat) (I:Array Value) (e:TypeId) (E:Nat×Nat),W.heap[k]?=some (.cells I e E)->e≠3->W'.heap[k]?=W.heap[k]?:=fun k I e E L O=>hg.block k (a_k L) (fun e'=>by cases e';rw [hr] at L;cases L;exact O rfl);refine ⟨v,(H _ _ _ _ V nT).trans V,fun g m c e=>?_⟩;obtain ⟨R,O⟩:=h g m c e;refine ⟨Nat.lt_of_lt_of_le R hg.size,fun i hi ad m' c' hc=>O i hi ad m' c' ?_⟩;obtain ⟨p,c2,xs,A,ho,_,_⟩:=Tap.head hT;rw [V] at A;cases A;cases e;rcases ho.2 with ⟨h0,_⟩|⟨g2,Z,aa,A,_,M,_⟩
 ·cases h0
 ·cases A;unfold cell? at hc ⊢;rw [<- H _ _ _ _ M nN];exact hc
theorem SpG.of {TT:TypeId} {E:Nat} {w A:World} (h:Bw w A):SpG TT w.heap.size E w A:=fun x _ H=>H.up h
theorem SpG.trans {TT:TypeId} {A:Nat} {a b c:World} (h:SpG TT a.heap.size A a b) (I:SpG TT b.heap.size A b c) (H:a.heap.size<=b.heap.size):SpG TT a.heap.size A a c:=fun x E J=>I x (Nat.lt_of_lt_of_le E H) (h x E J)
/-- The parameters' row, and that no node lies there. -/
structure PrG (TT:TypeId) (w:World) (B tb:Nat) (ps:List Int) (v:Value) (W:World):Prop where
 own:OwnK .i64 3 W w.heap.size v ps
 off:∀ x,v.ownBlock=some x->AvG TT x W tb
theorem PrG.nil (TT:TypeId) (w:World) (B A:Nat) (W:World):PrG TT w B A [] (.slice none 0 0) W:=⟨OwnK.nil _ _ _ _,fun x h=>by cases h⟩
theorem PrG.lt {TT:TypeId} {w:World} {B E:Nat} {ps:List Int} {v:Value} {W:World} (h:PrG TT w B E ps v W):∀ x,v.ownBlock=some x->w.heap.size<=x/\x < W.heap.size:=fun x A=>ownsRow.lt h.own x A
theorem PrG.tape {TT:TypeId} {w:World} {B A:Nat} {ps:List Int} {v:Value} {W W':World} (h:PrG TT w B A ps v W) {S:List TypeId} (J:Only S W W') (H:3∉S) (I:SpG TT W.heap.size A W W'):PrG TT w B A ps v W':=⟨h.own.only J H,fun x E=>I x (h.lt x E).2 (h.off x E)⟩
theorem PrG.up {TT:TypeId} {w:World} {B A:Nat} {ps:List Int} {v:Value} {W W':World} (h:PrG TT w B A ps v W) (E:Bw W W'):PrG TT w B A ps v W':=⟨h.own.up E,fun x H=>(h.off x H).up E⟩
theorem n_C {a b:World} (h:a.grownBy b none):Bw a b:=⟨h.os,h.tape,h.output,h.size,fun k A=>h.block k A (fun e=>by cases e)⟩
theorem PrG.grow {TT NT:TypeId} (nT:TT≠3) (nN:NT≠3) {w:World} {B tb:Nat} {ps:List Int} {ns:List Nd} {v Z:Value} {L:List Int} {W W':World} (h:PrG TT w B tb ps v W) (R:Tap TT NT W B tb ns) (ho:W'.ownsRow w.heap.size 3 1 Z (ps.length+L.length) (a_N .i64 ps++a_N .i64 L)) (I:W.grownBy W' v.ownBlock) (H:Z.ownBlock=v.ownBlock∨Z.ownBlock=some W.heap.size):PrG TT w B tb (ps++L) Z W'/\Tap TT NT W' B tb ns/\(∀ (S:List TypeId) A,Below B A W->Only S A W->A.heap.size<=w.heap.size->B<=w.heap.size->Below B A W'/\Only S A W'):=by
 have J:OwnK .i64 3 W' w.heap.size Z (ps++L):=by
  unfold OwnK;rw [length_append];unfold a_N at *;rw [map_append];exact ho
 have M:∀ (S:List TypeId) A,Below B A W->Only S A W->A.heap.size<=w.heap.size->B<=w.heap.size->Below B A W'/\Only S A W':=fun S A ab V hz aa=>by
  refine ⟨Below.grown ab I ?_ fun k hk=>Nat.le_trans aa (h.lt k hk).1,Nat.le_trans V.1 I.size,fun k hk hp=>?_⟩
  ·obtain ⟨hb,_,_,hv,_⟩:=R;exact Nat.le_trans hb (Nat.le_of_lt (a_k hv))
  ·rw [I.block k (Nat.lt_of_lt_of_le hk V.1) (fun e=>by have:=(h.lt k e.symm).1;omega)];exact V.2 k hk hp
 cases hb:v.ownBlock with
 | none=>
  rw [hb] at I H;have hB:=n_C I;refine ⟨⟨J,fun y E=>?_⟩,R.up hB,M⟩;rcases H with O|O
  ·rw [O] at E;cases E
  ·rw [O] at E;cases E;exact (R.avg (Nat.le_refl _)).up hB
 | some r=>
  rw [hb] at I H
  obtain ⟨cs,fz,hr⟩:∃ cs fz,W.heap[r]?=some (.cells cs 3 fz):=by
   rcases h.own.2 with ⟨rfl,_⟩|⟨g,ac,ad,rfl,_,hc,_⟩
   ·cases hb
   ·cases hb;exact ⟨_,_,hc⟩
  refine ⟨⟨J,fun y E=>?_⟩,R.beside nT nN I hr (h.off r hb),M⟩;rcases H with O|O
  ·rw [O] at E;cases E;exact (h.off r hb).beside nT nN R I hr
  ·rw [O] at E;cases E;exact (R.avg (Nat.le_refl _)).beside nT nN R I hr
abbrev SR:List TypeId:=[43,55]
abbrev d_o (W:World) (B tb:Nat) (ns:List Nd):Prop:=Tap 43 55 W B tb ns
def r_F:Prop:=∀ (p p2:Option Addr) (n c n2 c2:Nat) (d:List Int) (ls:List Ly) (hbig:n2<=1073741823) (w:World) (h1:Nums .i64 w (.slice p n c) d) (hL:LyR 0 w p2 n2 ls),Calls Tryz.prog 5 #[.agg #[.slice p n c,.slice p2 n2 c2]] w fun e w'=>(∃ v',e = .returned (.tuple #[v',.int .i64 (nP d ls),.int .i64 (nE d ls)]))/\Bw w w'
def r_G:Prop:=∀ (v:Value) (l:List Int) (hl:k_3 l) (w:World) (hv:Nums .i64 w v l),Calls Tryz.prog 21 #[v] w fun e w'=>e = .returned (.int .i64 (a_o l))/\w'=w
def RLfC:Prop:=∀ (B tb:Nat) (ns:List Nd) (p p2:Option Addr) (n c n2 c2:Nat) (dd yy:List Int) (hd:RI dd) (hr:ns.length < 512) (hp:isP dd yy) (w:World) (hT:d_o w B tb ns) (h1:Nums .i64 w (.slice p n c) dd) (h2:Nums .i64 w (.slice p2 n2 c2) yy),
  Calls Tryz.prog 27 #[.pointer (some ⟨tb,0,none⟩),.agg #[.slice p n c,.slice p2 n2 c2]] w fun e w'=>e = .returned (.tuple #[.int .i64 (f_f ns dd yy),.int .i64 (e_T ns dd yy)])/\d_o w' B tb (e_o ns dd yy)/\Below B w w'/\Only SR w w'/\SpG 43 w.heap.size tb w w'
def RDoC:Prop:=∀ (B tb:Nat) (ns:List Nd) (hG:NodesG ns) (op a b k:Int) (hop:op=2∨op=4∨op=8∨op=11∨op=12∨op=13∨op=14) (hE:doE ns op a b k=0) (w:World) (hT:d_o w B tb ns) (hk:InR k),
  Calls Tryz.prog 28 #[.pointer (some ⟨tb,0,none⟩),.int .i64 op,.int .i64 a,.int .i64 b,.int .i64 k] w fun e w'=>e = .returned (.tuple #[.int .i64 (doR ns op a b k),.int .i64 (doE ns op a b k)])/\d_o w' B tb (doN ns op a b k)/\Below B w w'/\Only SR w w'/\SpG 43 w.heap.size tb w w'
/-- Where an Op takes one node, the other one's number tells nothing. -/
theorem u_X {ns:List Nd} {op a b A k:Int} (h:d_H op->b=A):doE ns op a b k=doE ns op a A k/\doR ns op a b k=doR ns op a A k/\doN ns op a b k=doN ns op a A k:=by
 by_cases E:d_H op
 ·rw [h E];exact ⟨rfl,rfl,rfl⟩
 ·have I:okD ns op a b=okD ns op a A:=by
   unfold okD;exact propext ⟨fun h=>⟨h.1,h.2.1,fun c=>absurd c E⟩,fun h=>⟨h.1,h.2.1,fun c=>absurd c E⟩⟩
  have J:dE ns op a b k=dE ns op a A k:=by unfold dE dD dX;rw [if_neg E,if_neg E,if_neg E,if_neg E]
  have L:dN ns op a b k=dN ns op a A k:=by unfold dN dD dX dB;simp only [if_neg E]
  have H:doP ns op a b k=doP ns op a A k:=by unfold doP;rw [I,J]
  refine ⟨?_,?_,?_⟩
  ·unfold doE;simp only [I,J]
  ·unfold doR;simp only [H]
  ·unfold doN;simp only [L,H]
theorem RLfC.nx (h:RLfC) {B A:Nat} {ns J:List Nd} {p R:Option Addr} {n c V M:Nat} {D X O:List Int} {q:Bool} (L:Nx ns ⟨1,0,0,0,D,X,q⟩ J O) (Z:RI D) (w:World) (hT:d_o w B A ns) (h1:Nums .i64 w (.slice p n c) D) (h2:Nums .i64 w (.slice R V M) X):
  Calls Tryz.prog 27 #[.pointer (some ⟨A,0,none⟩),.agg #[.slice p n c,.slice R V M]] w fun e H=>e = .returned (.tuple #[.int .i64 (ns.length:Int),.int .i64 0])/\d_o H B A J/\Below B w H/\Only SR w H/\SpG 43 w.heap.size A w H:=by
 have e1:f_f ns D X=(ns.length:Int):=L.r;have I:e_T ns D X=0:=L.e;have e3:e_o ns D X=J:=L.n
 have E:ns.length < 512/\isP D X:=by
  unfold e_T at I
  split at I
  ·omega
  ·split at I
   ·exact ⟨by omega,by assumption⟩
   ·omega
 have:=h B A ns p R n c V M D X Z E.1 E.2 w hT h1 h2;rwa [e1,I,e3] at this
theorem RDoC.nx (h:RDoC) {B E:Nat} {ns J:List Nd} {op a b M k:Int} {O:List Int} (L:Nx ns (spD op a M k) J O) (V:NodesG ns) (I:op=2∨op=4∨op=8∨op=11∨op=12∨op=13∨op=14) (hb:d_H op->b=M) (w:World) (hT:d_o w B E ns) (hk:InR k):
  Calls Tryz.prog 28 #[.pointer (some ⟨E,0,none⟩),.int .i64 op,.int .i64 a,.int .i64 b,.int .i64 k] w fun e H=>e = .returned (.tuple #[.int .i64 (ns.length:Int),.int .i64 0])/\d_o H B E J/\Below B w H/\Only SR w H/\SpG 43 w.heap.size E w H:=by
 have A:¬ op=1:=by omega
 obtain ⟨b1,b2,Z⟩:=u_X (ns:=ns) (a:=a) (k:=k) hb
 have e1:doR ns op a b k=(ns.length:Int):=by
  rw [b2];have:=L.r;unfold stR at this;rw [if_neg A] at this;simpa using this
 have R:doE ns op a b k=0:=by
  rw [b1];have:=L.e;unfold stE at this;rw [if_neg A] at this;simpa using this
 have e3:doN ns op a b k=J:=by
  rw [Z];have:=L.n;unfold stN at this;rw [if_neg A] at this;simpa using this
 have:=h B E ns V op a b k I R w hT hk;rwa [e1,R,e3] at this
theorem t_2 {l:Ly} (k:a_m l.1=2) (d:List Int) (N:Nat) (rest:List Int) (bf last:Int):b_X l d N rest bf last = [spD 13 last 0 l.2.1]/\c_F l d N=N/\psz l d=0:=by
 refine ⟨?_,?_,?_⟩
 ·unfold b_X b_L;rw [if_neg (by omega),if_neg (by omega),if_neg (by omega),if_neg (by omega),if_pos k];rfl
 ·unfold c_F;rw [if_neg (by omega),if_neg (by omega)]
 ·unfold psz;rw [if_neg (by omega),if_neg (by omega)]
theorem t_3 {l:Ly} (k:a_m l.1=3) (d:List Int) (N:Nat) (rest:List Int) (bf last:Int):b_X l d N rest bf last = [spD 11 last 0 l.2.1]/\c_F l d N=N/\psz l d=0:=by
 refine ⟨?_,?_,?_⟩
 ·unfold b_X b_L;rw [if_neg (by omega),if_neg (by omega),if_neg (by omega),if_neg (by omega),if_neg (by omega),if_pos k];rfl
 ·unfold c_F;rw [if_neg (by omega),if_neg (by omega)]
 ·unfold psz;rw [if_neg (by omega),if_neg (by omega)]
theorem t_4 {l:Ly} (k:a_m l.1=4) (d:List Int) (N:Nat) (rest:List Int) (bf last:Int):b_X l d N rest bf last = [spD 2 bf last 0]/\c_F l d N=N/\psz l d=0:=by
 refine ⟨?_,?_,?_⟩
 ·unfold b_X b_L;rw [if_neg (by omega),if_neg (by omega),if_neg (by omega),if_neg (by omega),if_neg (by omega),if_neg (by omega)];rfl
 ·unfold c_F;rw [if_neg (by omega),if_neg (by omega)]
 ·unfold psz;rw [if_neg (by omega),if_neg (by omega)]
theorem n_D (N:Nat) (op a b k:Int):pnL N [spD op a b k] = []:=rfl
/-- What a run leaves as it was. -/
def Rr (B:Nat) (w W:World):Prop:=Below B w W/\Only SR w W
theorem Rr.of {B:Nat} {w W:World} (A:B<=w.heap.size) (h:Bw w W):Rr B w W:=⟨h.mono A,Only.of h⟩
theorem Rr.trans {B:Nat} {a b c:World} (h:Rr B a b) (A:Rr B b c):Rr B a c:=⟨h.1.trans A.1,h.2.trans A.2⟩
theorem s_W {l:Ly} (k:a_m l.1=0) (d:List Int) (N:Nat) (rest:List Int) (bf last:Int):b_X l d N rest bf last=spL [l.2.1,a_o d] (rest.take (l.2.1*a_o d).toNat) :: spL [l.2.1] ((rest.drop (l.2.1*a_o d).toNat).take l.2.1.toNat) :: l_r (decide (d.length=2)) (N+2) (N:Int) ((N+1:Nat):Int) last/\c_F l d N=l_s (decide (d.length=2)) (N+2)/\psz l d=l.2.1*a_o d+l.2.1/\g_X l d rest=(rest.drop (l.2.1*a_o d).toNat).drop l.2.1.toNat:=by
 have A:b_L l d = [[l.2.1,a_o d],[l.2.1]]:=if_pos k;refine ⟨?_,if_pos k,if_pos k,?_⟩
 ·unfold b_X;rw [A,if_pos k];simp [prS,shA,b_n,b_m]
 ·unfold g_X;rw [A];simp [prS,shA,b_n,b_m]
theorem s_X {l:Ly} (k:a_m l.1=1) (d:List Int) (N:Nat) (rest:List Int) (bf last:Int):b_X l d N rest bf last = [spL [l.2.1,d.getD 0 0,l.2.2] (rest.take (l.2.1*d.getD 0 0*l.2.2).toNat),spD 12 last (N:Int) 1]/\c_F l d N=N+1/\psz l d=l.2.1*d.getD 0 0*l.2.2/\g_X l d rest=rest.drop (l.2.1*d.getD 0 0*l.2.2).toNat:=by
 have A:b_L l d = [[l.2.1,d.getD 0 0,l.2.2]]:=by
  unfold b_L;rw [if_neg (by omega),if_pos k]
 refine ⟨?_,?_,?_,?_⟩
 ·unfold b_X;rw [A,if_neg (by omega),if_pos k];simp [prS,shA,b_o]
 ·unfold c_F;rw [if_neg (by omega),if_pos k]
 ·unfold psz;rw [if_neg (by omega),if_pos k]
 ·unfold g_X;rw [A];simp [prS,shA,b_o]
theorem n_E {l:Ly} (L:a_L l) {d:List Int} (J:InOk d) (rest:List Int):g_X l d rest=rest.drop (psz l d).toNat:=by
 have hp:=J.prod;rcases a_s L with ⟨-,k,A,E⟩|⟨-,k,A,E⟩|⟨-,k,A,E⟩|⟨-,k,A,E⟩|⟨-,k,A,E⟩
 ·obtain ⟨-,-,H,I⟩:=s_W k d 0 rest 0 0;have:=a_S A hp;rw [H,I,drop_drop]
  congr 1
  omega
 ·obtain ⟨-,-,H,I⟩:=s_X k d 0 rest 0 0;rw [H,I]
 all_goals
  unfold g_X psz b_L;rw [k];simp [prS]
theorem k_B {d:List Int} {ls:List Ly} {S:List (List Int)} {P X:List Int} (A:NetOk d ls S):∀ i,i<=ls.length->(plF d ls S P X i).2.1=P.drop (b_Q ls S i).toNat
 | 0,_=>by simp [plF,b_Q]
 | i+1,hi=>by
  show g_X (lyA ls i) (shA S i) (plF d ls S P X i).2.1=P.drop (b_Q ls S i+psz (lyA ls i) (shA S i)).toNat
  have H:=e_d (A.inn i (by omega)) (A.lay i (by omega));have I:=e_z (i:=i) (fun k E=>A.inn k (by omega)) (fun k E=>A.lay k (by omega));rw [n_E (A.lay i (by omega)) (A.inn i (by omega)),k_B A i (by omega),drop_drop]
  congr 1
  omega
theorem u_Y {l:Ly} (A:a_L l) (k:a_m l.1=0) (d:List Int) (N:Nat) (rest:List Int) (bf last:Int):pnL N (b_X l d N rest bf last) = [(N:Int),((N+1:Nat):Int)]:=by
 rw [n_z A,if_pos k]
theorem u_Z {l:Ly} (A:a_L l) (k:a_m l.1=1) (d:List Int) (N:Nat) (rest:List Int) (bf last:Int):pnL N (b_X l d N rest bf last) = [(N:Int)]:=by
 rw [n_z A,if_neg (by omega),if_pos k]
end Go.Proofs.YtkfpainpomobfaaGreatDoor.Wd
namespace Go.Proofs.YtkfpainpomobfaaGreatDoor.Wd
open Go.RowKit List World Nat
end Go.Proofs.YtkfpainpomobfaaGreatDoor.Wd
namespace Go.Proofs.YtkfpainpomobfaaGreatDoor.Wd
open Go.RowKit Fx List World Nat
def LitI (l:List Int) (v:Value) (W:World):Prop:=OwnK .i64 3 W 0 v l
theorem LitI.up {l:List Int} {v:Value} {W W':World} (h:LitI l v W) (A:Bw W W'):LitI l v W':=OwnK.up h A
def LitT (l:List Int) (u v:Value) (W:World):Prop:=∃ p n c,v = .agg #[.slice p n c,u]/\OwnK .i64 3 W 0 (.slice p n c) l
theorem LitT.up {l:List Int} {u v:Value} {W W':World} (h:LitT l u v W) (A:Bw W W'):LitT l u v W':=h.elim fun p ⟨n,c,e,o⟩=>⟨p,n,c,e,OwnK.up o A⟩
theorem LitT.only {l:List Int} {u v:Value} {W W':World} (h:LitT l u v W) (A:Only SR W W'):LitT l u v W':=h.elim fun p ⟨n,c,e,o⟩=>⟨p,n,c,e,OwnK.only o A (by decide)⟩
def EqV (a v:Value) (W:World):Prop:=v=a
theorem g_o {P:Program} {t e:TypeId} {k:IntKind} {b:Nat} (T:NumT P t e k b) (V:b<=8) {ops:Array Oper} {rest:List Oper} {o:Oper} {a:Act} {Q:Exit->Act->World->Prop} {w:World} (O:o.guard=none) (s x:Operand)
  (ho:o.op = .call { callee:=.builtin .append,args:=#[s,x],argTypes:=#[t,t] }) (B:Nat) (I:Value) (E:List Int) (hs:a.eval s=I) (H:OwnK k e w B I E)
  (g m:Nat) (l:List Int) (hx:a.eval x = .slice (some ⟨g,0,none⟩) m m) (hg:w.heap[g]?=some (.cells (a_N k l).toArray e (0,0))) (hl:l.length=m) (J:E.length+m<=1073741824) (hB:B<=w.heap.size)
  (h:∀ A L,Hid (L.ownsRow B e 1 A (E.length+l.length) (a_N k E++a_N k l))->Hid (w.grownBy L I.ownBlock)->Hid (A.ownBlock=I.ownBlock∨A.ownBlock=some w.heap.size)->wpList P ops Q rest (a.put o.dst A) L):wpList P ops Q (o :: rest) a w:=by
 obtain ⟨i0,hi,Z,M,R⟩:=d_r T;have hm:(E.length+m)*b<=1073741824*8:=Nat.mul_le_mul J V;refine wpList_append_own_at w O s x t ho B e i0 (.int k 0) 1 b T.ht hi Z M R rfl (by decide) I E.length _ hs H ⟨g,0,none⟩ m m (a_N k l) hx (by simp [a_N,hl]) (fun j y hj=>?_) (d_L k l) (by unfold maxLen;omega) (by omega) hB ?_
 ·rw [a_r,Nat.zero_add];unfold cell?;simpa [hg] using hj
 ·intro A L h1 h2 _ h4;refine h A L ?_ h2 h4;show ownsRow _ _ _ _ _ _ _;rw [hl];exact h1
theorem j_t:∀ (l:List Sp) (N:Nat),(pnL N l).length<=l.length
 | [],_=>Nat.le_refl _
 | s :: r,N=>by
  have:=j_t r (N+1);unfold pnL;rw [length_append,length_cons]
  split <;> simp <;> omega
/-- A piece of the parameters. -/
theorem n_F {w:World} {B:Nat} {I:Option Addr} {E A:Nat} {P:List Int} (hp:∀ W,Rr B w W->Nums .i64 W (.slice I E A) P) (J:P.length=E) (O:E<=A) {i j:Nat} (H:i<=j) (L:j<=E):∃ q n c,(∀ W,Sem.run Tryz.prog (Instr.slice 26 (.slice I E A) (some (.int .i64 (i:Int))) (some (.int .i64 (j:Int))) none) W = .ok (.slice q n c) W)/\∀ W,Rr B w W->Nums .i64 W (.slice q n c) ((P.drop i).take (j - i)):=by
 obtain ⟨q,e⟩:=b_H I i j A;refine ⟨q,j - i,A - i,fun W=>?_,fun W M=>?_⟩
 ·rw [<- e];exact j_d I E A i j H (by omega) W
 ·rw [<- e];exact d_Y H L J O (hp W M)
structure StR (w:World) (B tb:Nat) (ms:List Nd) (ps:List Int) (pv:Value) (nb:Array Value) (eb:Nat) (ec:Array Value) (dv:Value) (dd:List Int) (W:World):Prop where
 t:d_o W B tb ms
 r:Rr B w W
 z:w.heap.size<=W.heap.size
 bz:B<=w.heap.size
 p:PrG 43 w B tb ps pv W
 n:W.heap[w.heap.size]?=some (.cells nb 34 (0,0))
 e:W.heap[eb]?=some (.cells ec 68 (0,0))
 d:OwnK .i64 3 W 0 dv dd
section
variable {w W W' : World} {B tb eb : Nat} {ms m1 : List Nd} {ps dd : List Int} {pv dv : Value} {nb ec : Array Value}
theorem StR.up (h:StR w B tb ms ps pv nb eb ec dv dd W) (A:Bw W W'):StR w B tb ms ps pv nb eb ec dv dd W':=
 ⟨h.t.up A,h.r.trans (Rr.of (Nat.le_trans h.bz h.z) A),Nat.le_trans h.z A.size,h.bz,h.p.up A,(A.block _ (a_k h.n)).trans h.n,(A.block _ (a_k h.e)).trans h.e,h.d.up A⟩
theorem StR.go (h:StR w B tb ms ps pv nb eb ec dv dd W) (H:d_o W' B tb m1) (E:Below B W W') (A:Only SR W W') (I:SpG 43 W.heap.size tb W W'):StR w B tb m1 ps pv nb eb ec dv dd W':=
 ⟨H,h.r.trans ⟨E,A⟩,Nat.le_trans h.z A.1,h.bz,h.p.tape A (by decide) I,A.keep h.n (by decide),A.keep h.e (by decide),h.d.only A (by decide)⟩
theorem StR.cl (h:StR w B tb ms ps pv nb eb ec dv dd W) {i:Nat} {v:Value} (A:ec[i]?=some v):W.cell? ⟨eb,i,none⟩=some v:=by
 unfold cell?;simp [h.e,A]
theorem StR.dm {q o n c:Nat} (h:StR w B tb ms ps pv nb eb ec (.slice (some ⟨q,o,none⟩) n c) dd W) {i:Nat} (A:i < dd.length):W.cell? ⟨q,o+i,none⟩=some (.int .i64 (dd.getD i 0)):=by
 obtain ⟨p,L,e,E⟩:=h.d.nums.view;cases e;obtain ⟨M,J,I,H⟩:=E i A;cases I;exact H
theorem StR.leaf (cL:RLfC) {I:Nat} (A:ms.length=I) {D X O:List Int} {q:Bool} (hx:Nx ms ⟨1,0,0,0,D,X,q⟩ m1 O) (R:RI D) (h:StR w B tb ms ps pv nb eb ec dv dd W) {p L:Option Addr} {n c M J:Nat} (V:Nums .i64 W (.slice p n c) D) (h2:Nums .i64 W (.slice L M J) X):
  Calls Tryz.prog 27 #[.pointer (some ⟨tb,0,none⟩),.agg #[.slice p n c,.slice L M J]] W fun e E=>e = .returned (.tuple #[.int .i64 (I:Int),.int .i64 0])/\StR w B tb m1 ps pv nb eb ec dv dd E/\Only SR W E:=by
 have:=cL.nx hx R W h.t V h2;rw [A] at this;exact this.mono fun e E ⟨e1,hT,Z,H,hS⟩=>⟨e1,h.go hT Z H hS,H⟩
theorem StR.call (M:RDoC) {I:Nat} (E:ms.length=I) {op a b H k:Int} {O:List Int} (hx:Nx ms (spD op a H k) m1 O) (L:NodesG ms) (A:op=2∨op=4∨op=8∨op=11∨op=12∨op=13∨op=14) (hb:d_H op->b=H) (V:InR k) (h:StR w B tb ms ps pv nb eb ec dv dd W):
  Calls Tryz.prog 28 #[.pointer (some ⟨tb,0,none⟩),.int .i64 op,.int .i64 a,.int .i64 b,.int .i64 k] W fun e J=>e = .returned (.tuple #[.int .i64 (I:Int),.int .i64 0])/\StR w B tb m1 ps pv nb eb ec dv dd J:=by
 have:=M.nx hx L A hb W h.t V;rw [E] at this;exact this.mono fun e J ⟨e1,hT,Z,R,hS⟩=>⟨e1,h.go hT Z R hS⟩
theorem StR.grow (h:StR w B tb ms ps pv nb eb ec dv dd W) {A:Value} {L:List Int} (Z:W'.ownsRow w.heap.size 3 1 A (ps.length+L.length) (a_N .i64 ps++a_N .i64 L)) (E:W.grownBy W' pv.ownBlock) (I:A.ownBlock=pv.ownBlock∨A.ownBlock=some W.heap.size):
  PrG 43 w B tb (ps++L) A W'/\(d_o W' B tb ms/\Rr B w W'/\w.heap.size<=W'.heap.size)/\W'.heap[w.heap.size]?=some (.cells nb 34 (0,0)):=by
 obtain ⟨M,h2,V⟩:=PrG.grow (NT:=55) (by decide) (by decide) h.p h.t Z E I;refine ⟨M,⟨h2,V SR w h.r.1 h.r.2 (Nat.le_refl _) h.bz,Nat.le_trans h.z E.size⟩,?_⟩;rw [E.block _ (a_k h.n) (fun e=>?_)]
 ·exact h.n
 ·rcases h.p.own.2 with ⟨H,_⟩|⟨g,R,O,H,_,J,_⟩
  ·rw [H] at e;cases e
  ·rw [H] at e;have e2:g=w.heap.size:=(Option.some.inj e).symm;have:=h.n;rw [e2] at J;rw [J] at this;cases this
end
end Go.Proofs.YtkfpainpomobfaaGreatDoor.Wd
