/- The code's tape: its small functions, a  -/
import Derived.Test.YtcpbhhlepdgdkaaGreatDoorT12
set_option linter.unusedVariables false
set_option linter.unusedSimpArgs false
set_option maxHeartbeats 16000000
set_option maxRecDepth 16000
namespace Go.Proofs.YtcpbhhlepdgdkaaGreatDoor.Wd
open Go.RowKit Fx
def TapC (W:World) (B b:Nat) (ns:List Nd):Prop:=Tap 89 107 W B b ns
abbrev SC:List TypeId:=[89,107]
theorem TapC.up {W W':World} {B b:Nat} {ns:List Nd} (h:TapC W B b ns) (D:Below W.heap.size W W'):TapC W' B b ns:=Tap.up h D
theorem o_B:107≠89:=by decide
def Spare (tb:Nat) (w w':World):Prop:=∀ x v,w.heap[tb]?=some (.cells #[v] 89 (0,0))->x≠tb->x < w.heap.size->v.ownBlock≠some x->w'.heap[x]?=w.heap[x]?/\∃ v',w'.heap[tb]?=some (.cells #[v'] 89 (0,0))/\v'.ownBlock≠some x
theorem Spare.of {D:Nat} {w E:World} (h:Below w.heap.size w E):Spare D w E:=fun x v H _ J I=>⟨h.block x J,v,(h.block D (a_i H)).trans H,I⟩
theorem Spare.trans {I:Nat} {a b c:World} (h:Spare I a b) (M:Spare I b c):Spare I a c:=fun x v R J L U=>by
 obtain ⟨D,O,E,H⟩:=h x v R J L U
 have hb:x < b.heap.size:=by
  rw [Array.getElem?_eq_getElem L] at D;exact a_i D
 obtain ⟨V,r⟩:=M x O E J hb H;exact ⟨V.trans D,r⟩
/-- No node's dims lie in block x. -/
def AvT (x:Nat) (W:World) (tb:Nat):Prop:=∃ v,W.heap[tb]?=some (.cells #[v] 89 (0,0))/\∀ g m c,v = .slice (some ⟨g,0,none⟩) m c->g < W.heap.size/\∀ i,i < m->∀ ad m' c',W.cell? ⟨g,i*6+4,none⟩=some (.slice (some ad) m' c')->ad.block≠x
def SpA (H tb:Nat) (w w':World):Prop:=∀ x,x < H->AvT x w tb->AvT x w' tb
theorem AvT.up {x E:Nat} {W W':World} (h:AvT x W E) (D:Below W.heap.size W W'):AvT x W' E:=by
 obtain ⟨v,H,h⟩:=h;refine ⟨v,(D.block E (a_i H)).trans H,fun g m c e=>?_⟩;obtain ⟨J,O⟩:=h g m c e;refine ⟨Nat.lt_of_lt_of_le J D.size,fun i R M L U I=>O i R M L U ?_⟩;unfold World.cell? at I ⊢;rw [<- D.block g J];exact I
theorem q_J {w6 w8:World} {B L N V c8 H x:Nat} {pL:Option Addr} {D u:List Value} {s:Value} (ae:w6.heap[L]?=some (.cells #[.slice pL N V] 89 (0,0))) (O:w6.ownsRow B 107 6 (.slice pL N V) N D) (hl:D.length=N*6) (R:w8.heap[L]?=some (.cells #[.slice pL N V] 89 (0,0)))
  (E:w8.ownsRow B 107 6 (.slice (some ⟨H,0,none⟩) (N+1) c8) (N+1) (D++u)) (hu:u[4]?=some s) (hs:∀ J m c,s = .slice (some J) m c->J.block≠x) (I:AvT x w6 L):AvT x (w8.setCell ⟨L,0,none⟩ (.slice (some ⟨H,0,none⟩) (N+1) c8)) L:=by
 obtain ⟨v,hv,I⟩:=I;rw [ae] at hv;cases hv;have ab:H≠L:=fun e=>e_b o_B R E (by rw [<- e];rfl);refine ⟨_,(a_n R).trans rfl,fun g m c e=>?_⟩;cases e;refine ⟨by have:=(World.ownsRow.lt E H rfl).2;simpa using this,fun i hi J m' c' hc=>?_⟩
 have M:w8.cell? ⟨H,i*6+4,none⟩=some (.slice (some J) m' c'):=by
  unfold World.cell? at hc ⊢;rw [a_X _ _ _ _ _ ab] at hc;exact hc
 by_cases aa:i < N
 ·have hj:i*6+4 < D.length:=by omega
  obtain ⟨z,hz⟩:∃ z,D[i*6+4]?=some z:=⟨_,List.getElem?_eq_getElem hj⟩
  have U:=E.cells (g:=H) rfl (i*6+4) z (by rw [List.getElem?_append_left hj];exact hz);rw [a_t,Nat.zero_add,M] at U;cases U;rcases O.2 with ⟨h0,h1⟩|⟨g,af,ag,hv,hb,hg,rest⟩
  ·omega
  ·cases hv;have h6:=O.cells (g:=g) rfl (i*6+4) _ hz;rw [a_t,Nat.zero_add] at h6;exact (I g N V rfl).2 i aa J m' c' h6
 ·have ac:i=N:=by omega
  subst ac;have U:=E.cells (g:=H) rfl (i*6+4) s (by rw [List.getElem?_append_right (by omega),hl,Nat.add_sub_cancel_left];exact hu);rw [a_t,Nat.zero_add,M] at U;cases U;exact hs J m' c' rfl
theorem m_F {W:World} {H M J:Nat} {O:Option Addr} {D:List Int} (h:OwnK .i64 3 W H (.slice O M J) D):∀ E m c,Value.slice O M J = .slice (some E) m c->H<=E.block:=fun E m c e=>by
 rcases h.2 with ⟨I,_⟩|⟨g,R,U,L,hb,_⟩
 ·rw [e] at I;cases I
 ·rw [e] at L;cases L;exact hb
theorem m_G {W:World} {H I L x:Nat} {J:Option Addr} {D:List Int} (h:OwnK .i64 3 W H (.slice J I L) D) (M:x < H):∀ E m c,Value.slice J I L = .slice (some E) m c->E.block≠x:=fun E m c e=>by
 have:=m_F h E m c e;omega
/-- What a tape's change leaves to others. -/
def Spar2 (tb:Nat) (w w':World):Prop:=Spare tb w w'/\SpA w.heap.size tb w w'
theorem Spar2.of {E:Nat} {w D:World} (h:Below w.heap.size w D):Spar2 E w D:=⟨Spare.of h,fun x _ H=>H.up h⟩
theorem Spar2.trans {D:Nat} {a b c:World} (h:Spar2 D a b) (E:Spar2 D b c) (J:a.heap.size<=b.heap.size):Spar2 D a c:=⟨h.1.trans E.1,fun x H I=>E.2 x (Nat.lt_of_lt_of_le H J) (h.2 x H I)⟩
theorem Spar2.kept {I M L:Nat} {R:Option Addr} {D:List Int} {w E J:World} (h:Below w.heap.size w E) (O:Spare I E J/\∀ H,OwnK .i64 3 E H (.slice R M L) D->SpA H I E J) (U:OwnK .i64 3 E w.heap.size (.slice R M L) D):Spar2 I w J:=
 ⟨(Spare.of h).trans O.1,fun x V ha=>O.2 _ U x V (ha.up h)⟩
/-- A node's dims lie below the heap's end. -/
theorem TapC.av {W:World} {B J x:Nat} {ns:List Nd} (h:TapC W B J ns) (hx:W.heap.size<=x):AvT x W J:=by
 obtain ⟨p,c,xs,hv,I,L,_⟩:=Tap.head h;refine ⟨_,hv,fun g m c' e=>?_⟩;cases e;refine ⟨(World.ownsRow.lt I g rfl).2,fun i M ad m' aa hc=>?_⟩;obtain ⟨q,nd,s,t,e,_,_,_,_,_,H,_,O,_⟩:=d_y I L rfl i M;cases e;rw [hc] at H;cases H;rcases O.2 with ⟨V,_⟩|⟨g2,R,U,D,_,E,_⟩
 ·cases V
 ·cases D;have:=a_i E;intro e;have e':g2=x:=e;omega
/-- A row of ints of another's may grow. -/
theorem TapC.beside {W W':World} {B tb r:Nat} {ns:List Nd} {cs:Array Value} {fz:Nat×Nat} (h:TapC W B tb ns) (hg:W.grownBy W' (some r)) (hr:W.heap[r]?=some (.cells cs 3 fz)) (ha:AvT r W tb):TapC W' B tb ns:=by
 have hk:∀ (k:Nat) (M:Array Value) (e:TypeId) (O:Nat×Nat),W.heap[k]?=some (.cells M e O)->e≠3->W'.heap[k]?=some (.cells M e O):=fun k M e O V h2=>by
  rw [hg.block k (a_i V) (fun e'=>by cases e';rw [hr] at V;cases V;exact h2 rfl)];exact V
 obtain ⟨hb,v,xs,hv,ho,hn⟩:=h
 have aa:W'.ownsRow B 107 6 v ns.length xs:=by
  refine ⟨ho.1,?_⟩;rcases ho.2 with hn|⟨g,D,E,hv,hb,hg,rest⟩
  ·exact .inl hn
  ·exact .inr ⟨g,D,E,hv,hb,hk _ _ _ _ hg (by decide),rest⟩
 refine ⟨hb,v,xs,hk _ _ _ _ hv (by decide),aa,hn.1,fun i nd hi=>?_⟩;obtain ⟨s,t,e,hs,ht⟩:=hn.2 i nd hi;refine ⟨s,t,e,⟨hs.1,?_⟩,⟨ht.1,?_⟩⟩
 ·rcases hs.2 with L|⟨g,D,E,I,J,H,rest⟩
  ·exact .inl L
  ·refine .inr ⟨g,D,E,I,J,?_,rest⟩;rw [hg.block g (a_i H) (fun e'=>?_)]
   ·exact H
   ·cases e';obtain ⟨v',U,ad⟩:=ha;rw [hv] at U;cases U
    have ac:i < ns.length:=by
     rcases Nat.lt_or_ge i ns.length with h|h
     ·exact h
     ·rw [List.getElem?_eq_none h] at hi;cases hi
    have hx:xs[i*6+4]?=some s:=by
     have R:((xs.drop (i*6)).take 6)[4]?=some s:=by rw [e];rfl
     rw [List.getElem?_take] at R
     split at R
     ·rw [List.getElem?_drop] at R;exact R
     ·cases R
    rcases ho.2 with ⟨_,V⟩|⟨g2,ae,af,ab,_,_,_⟩
    ·omega
    ·subst ab;have h6:=ho.cells (g:=g2) rfl (i*6+4) _ hx;rw [a_t,Nat.zero_add,I] at h6;exact (ad g2 _ _ rfl).2 i ac _ _ _ h6 rfl
 ·rcases ht.2 with L|⟨g,D,E,I,J,H,rest⟩
  ·exact .inl L
  ·exact .inr ⟨g,D,E,I,J,hk _ _ _ _ H (by decide),rest⟩
theorem AvT.beside {W W':World} {U r x B:Nat} {ns:List Nd} {cs:Array Value} {fz:Nat×Nat} (h:AvT x W U) (hT:TapC W B U ns) (hg:W.grownBy W' (some r)) (hr:W.heap[r]?=some (.cells cs 3 fz)):AvT x W' U:=by
 obtain ⟨v,R,h⟩:=h;have I:∀ (k:Nat) (E:Array Value) (e:TypeId) (H:Nat×Nat),W.heap[k]?=some (.cells E e H)->e≠3->W'.heap[k]?=W.heap[k]?:=fun k E e H M J=>hg.block k (a_i M) (fun e'=>by cases e';rw [hr] at M;cases M;exact J rfl);refine ⟨v,(I _ _ _ _ R (by decide)).trans R,fun g m c e=>?_⟩;obtain ⟨L,J⟩:=h g m c e;refine ⟨Nat.lt_of_lt_of_le L hg.size,fun i hi ad m' c' hc=>J i hi ad m' c' ?_⟩;obtain ⟨p,c2,xs,D,ho,_,_⟩:=Tap.head hT;rw [R] at D;cases D;cases e;rcases ho.2 with ⟨h0,_⟩|⟨g2,V,aa,D,_,O,_⟩
 ·cases h0
 ·cases D;unfold World.cell? at hc ⊢;rw [<- I _ _ _ _ O (by decide)];exact hc
/-- A row of nodes of one's own, and where it lies. -/
def OwnL (e:TypeId) (B n:Nat) (xs:List Value) (r:Option Nat) (H:Nat) (v:Value) (W:World):Prop:=OwnN e B n xs v W/\∃ g c,v = .slice (some ⟨g,0,none⟩) n c/\(r=some g∨H<=g)
theorem OwnL.up {e:TypeId} {B n:Nat} {D:List Value} {r:Option Nat} {H:Nat} {v:Value} {W W':World} (h:OwnL e B n D r H v W) (E:Below W.heap.size W W'):OwnL e B n D r H v W':=⟨OwnN.up h.1 E,h.2⟩
theorem t_h:StT Tryz.prog 87 107 80:=⟨Tryz.underlying87,by kernel_rfl⟩
/-- append of one node that a literal holds, and where the row lies then. -/
theorem t_X {P:Program} {t e:TypeId} {b:Nat} (T:StT P t e b) (hb:b<=128) (R:TypeId) (W:World) (B:Nat) (v:Value) (n:Nat) (O:List Value) (ho:W.ownsRow B e 6 v n O) (g:Nat) (u:List Value) (hg:W.heap[g]?=some (.cells u.toArray e (0,0))) (hu:u.length=6) (h1:∀ x∈u,x.oneCell'=true) (hn:n+1<=1073741824) (hB:B<=W.heap.size):
  ∃ H D L,(Builtin.append_ #[t,t] R #[v,.slice (some ⟨g,0,none⟩) 1 1]).run P W = .ok (.slice (some ⟨H,0,none⟩) (n+1) D) L/\L.ownsRow B e 6 (.slice (some ⟨H,0,none⟩) (n+1) D) (n+1) (O++u)/\W.grownBy L v.ownBlock/\(v.ownBlock=some H∨H=W.heap.size):=by
 have I:=T.hi;cases h:P.info? e with
 | none=>rw [h] at I;cases I
 | some i=>
  rw [h] at I;simp only [Option.map_some,Option.some.injEq,Prod.mk.injEq] at I;obtain ⟨J,hs,M⟩:=I;cases E:i.zero with
  | none=>rw [E] at J;cases J
  | some z=>
   rw [E] at J;simp only [Option.map_some,Option.some.injEq] at J;have hm:(n+1)*b<=1073741824*128:=Nat.mul_le_mul hn hb
   obtain ⟨H,D,L,hr,h2,h3,U,_⟩:=run_append_lies (P:=P) W t R B e i z 6 b T.ht h E hs M J (by decide) v n O ho ⟨g,0,none⟩ 1 1 u (by omega) (fun j x V=>by
    rw [a_t,Nat.zero_add];unfold World.cell?;simpa [hg] using V) h1 (by omega) (by unfold maxLen;omega) (by omega) hB _ rfl
   exact ⟨H,D,L,hr,h2,h3,U⟩
theorem o_C (w:World):Calls Tryz.prog 22 #[] w fun e D=>∃ b,e = .returned (.pointer (some ⟨b,0,none⟩))/\TapC D w.heap.size b []/\Below w.heap.size w D:=by
 go_enter Tryz.func22,Tryz.ntmps22;go_wp2;exact bodyPost_ret (v:=.pointer (some ⟨w.heap.size,0,none⟩)) (by simp [results,Tryz.results22,go_sem]) rfl ⟨_,rfl,Tap.new (Nat.le_refl _),a_b _ _⟩
theorem c_i (B O:Nat) (ns:List Nd) (q:Bool) (U:decide (512<=ns.length)=q) (w:World) (H:TapC w B O ns):Calls Tryz.prog 85 #[.pointer (some ⟨O,0,none⟩)] w fun e w'=>e = .returned (.bool q)/\w'=w:=by
 have M:Hid (TapC w B O ns):=H;obtain ⟨pL,cL,V,E,R,I,D⟩:=Tap.head H;obtain ⟨N,L⟩:∃ N,ns.length=N:=⟨_,rfl⟩
 rw [L] at E R D;have J:=(b_G E).1;have hz:=a_i E;rw [L] at U;have aa:decide ((512:Int)<=(N:Int))=q:=by rw [<- U];exact decide_eq_decide.2 (by omega)
 clear H M E R I D L;go_enter Tryz.func85,Tryz.ntmps85;go_wp2;go_ret;exact ⟨rfl,rfl⟩
theorem c_T (B U:Nat) (ns:List Nd) (i:Int) (q:Bool) (E:decide (0<=i/\i < (ns.length:Int))=q) (w:World) (I:TapC w B U ns):Calls Tryz.prog 60 #[.pointer (some ⟨U,0,none⟩),.int .i64 i] w fun e w'=>e = .returned (.bool q)/\w'=w:=by
 have R:Hid (TapC w B U ns):=I;obtain ⟨pL,cL,aa,H,V,J,D⟩:=Tap.head I;obtain ⟨N,O⟩:∃ N,ns.length=N:=⟨_,rfl⟩
 rw [O] at H V D;have M:=(b_G H).1;have hz:=a_i H;rw [O] at E;clear I R H V J D O;by_cases h0:i < 0
 ·have L:q=false:=by rw [<- E];exact decide_eq_false (by omega)
  subst L;have d1:decide (0<=i)=false:=decide_eq_false (by omega);clear E h0;go_enter Tryz.func60,Tryz.ntmps60;go_wp2;go_ret;exact ⟨rfl,rfl⟩
 ·have d1:decide (0<=i)=true:=decide_eq_true (by omega);have d2:decide (i < (N:Int))=q:=by rw [<- E];exact decide_eq_decide.2 (by omega)
  clear E h0;go_enter Tryz.func60,Tryz.ntmps60;go_wp2;go_ret;exact ⟨rfl,rfl⟩
theorem f_Q (op:Int) (q:Bool) (E:decide (d_D op)=q) (w:World):
  Calls Tryz.prog 88 #[.int .i64 op] w fun e R=>e = .returned (.bool q)/\R=w:=by
 by_cases J:op=2
 ·subst J;have D:q=true:=by rw [<- E];decide
  subst D;clear E;go_enter Tryz.func88,Tryz.ntmps88;go_wp2;go_ret;exact ⟨rfl,rfl⟩
 by_cases M:op=3
 ·subst M;have D:q=true:=by rw [<- E];decide
  subst D;clear E;go_enter Tryz.func88,Tryz.ntmps88;go_wp2;go_ret;exact ⟨rfl,rfl⟩
 by_cases I:op=4
 ·subst I;have D:q=true:=by rw [<- E];decide
  subst D;clear E;go_enter Tryz.func88,Tryz.ntmps88;go_wp2;go_ret;exact ⟨rfl,rfl⟩
 by_cases L:op=6
 ·subst L;have D:q=true:=by rw [<- E];decide
  subst D;clear E;go_enter Tryz.func88,Tryz.ntmps88;go_wp2;go_ret;exact ⟨rfl,rfl⟩
 by_cases H:op=12
 ·subst H;have D:q=true:=by rw [<- E];decide
  subst D;clear E;go_enter Tryz.func88,Tryz.ntmps88;go_wp2;go_ret;exact ⟨rfl,rfl⟩
 have V:(op==2)=false:=by simpa using J
 have g3:(op==3)=false:=by simpa using M
 have U:(op==4)=false:=by simpa using I
 have g6:(op==6)=false:=by simpa using L
 have O:(op==12)=false:=by simpa using H
 have D:q=false:=by rw [<- E];exact decide_eq_false (by omega)
 subst D;clear E J M I L H;go_enter Tryz.func88,Tryz.ntmps88;go_wp2;go_ret;exact ⟨rfl,rfl⟩
theorem i_b (op:Int) (q:Bool) (E:decide (byP op)=q) (w:World):
  Calls Tryz.prog 89 #[.int .i64 op] w fun e U=>e = .returned (.bool q)/\U=w:=by
 by_cases M:op=5
 ·subst M;have D:q=true:=by rw [<- E];decide
  subst D;clear E;go_enter Tryz.func89,Tryz.ntmps89;go_wp2;go_ret;exact ⟨rfl,rfl⟩
 by_cases L:op=8
 ·subst L;have D:q=true:=by rw [<- E];decide
  subst D;clear E;go_enter Tryz.func89,Tryz.ntmps89;go_wp2;go_ret;exact ⟨rfl,rfl⟩
 by_cases H:op=11
 ·subst H;have D:q=true:=by rw [<- E];decide
  subst D;clear E;go_enter Tryz.func89,Tryz.ntmps89;go_wp2;go_ret;exact ⟨rfl,rfl⟩
 by_cases J:op=12
 ·subst J;have D:q=true:=by rw [<- E];decide
  subst D;clear E;go_enter Tryz.func89,Tryz.ntmps89;go_wp2;go_ret;exact ⟨rfl,rfl⟩
 by_cases I:op=13
 ·subst I;have D:q=true:=by rw [<- E];decide
  subst D;clear E;go_enter Tryz.func89,Tryz.ntmps89;go_wp2;go_ret;exact ⟨rfl,rfl⟩
 have g5:(op==5)=false:=by simpa using M
 have g8:(op==8)=false:=by simpa using L
 have R:(op==11)=false:=by simpa using H
 have O:(op==12)=false:=by simpa using J
 have V:(op==13)=false:=by simpa using I
 have D:q=false:=by rw [<- E];exact decide_eq_false (by omega)
 subst D;clear E M L H J I;go_enter Tryz.func89,Tryz.ntmps89;go_wp2;go_ret;exact ⟨rfl,rfl⟩
theorem i_c {B:Nat} {a b c:World} (h:Below B a b) (D:Below B b c):Below B a c:=h.trans D
theorem f_R (p U:Option Addr) (n c R c2:Nat) (dd D:List Int) (V:isP dd D) (w:World) (h1:Nums .i64 w (.slice p n c) dd) (h2:Nums .i64 w (.slice U R c2) D):
  Calls Tryz.prog 61 #[.agg #[.slice p n c,.slice U R c2]] w fun e H=>∃ v,e = .returned v/\TRes H w.heap.size v dd D/\Below w.heap.size w H:=by
 have aa:dd.length<=1073741824:=by have:=V.1.1;rw [a_Q] at this;omega
 have ab:D.length<=1073741824:=by have h3:=V.1.2.2;have h4:=V.2;omega
 have CI:Hid (∀ W,Below w.heap.size w W->Calls Tryz.prog 64 #[.slice p n c] W fun e H=>∃ O,e = .returned O/\OwnK .i64 3 H W.heap.size O dd/\Below W.heap.size W H):=fun W hW=>b_j _ dd (by omega) W (h1.up hW);have CF:Hid (∀ W,Below w.heap.size w W->Calls Tryz.prog 80 #[.slice U R c2] W fun e H=>∃ O,e = .returned O/\OwnK .i64 48 H W.heap.size O D/\Below W.heap.size W H):=fun W hW=>g_i _ D (by omega) W (h2.up hW);haveI:Nonempty World:=⟨w⟩
 clear h1 h2 aa ab V;go_enter Tryz.func61,Tryz.ntmps61;go_wp2_with fail
 generalize E:World.alloc _ _=W0;have I:=b_1 (w:=w) E (by go_grown);have XA:Hid (Cel W0 w.heap.size (.slice p n c) (.slice U R c2)):=a_F E (by simp [go_sem]);have XR:Hid (Cel W0 (w.heap.size+1) (.slice none 0 0) (.slice none 0 0)):=a_F E (by simp [go_sem]);clear E;obtain ⟨a0,a1,_,_⟩:=XA.out;have k0:=a_a a0;refine rel [⟨2,5,fun v W=>OwnK .i64 3 W W0.heap.size v dd⟩,⟨5,8,fun v W=>OwnK .i64 48 W W0.heap.size v D⟩,⟨6,9,OwnT W0.heap.size dd D⟩] 7 10 (by kernel_rfl) rfl rfl (by kernel_rfl) (by rfl) ?_ ?_
 ·intro e he v W W' h hb;simp only [List.mem_cons,List.not_mem_nil,or_false] at he;rcases he with rfl|rfl|rfl
  ·exact OwnK.up h hb
  ·exact OwnK.up h hb
  ·exact OwnT.up h hb
 apply Exists.intro;refine ⟨fun x=>?_,?_,?_⟩
 ·simp only [List.take_succ_cons,List.take_zero]
  iterate 2
   refine a_l rfl rfl ?_;apply Exists.intro;refine ⟨fun F hF hf K hK=>?_,?_⟩
   ·have hFc:=hF.cell;have hFf:=hF.frozen
    go_big_quiet_op
    exact hK
   (try simp only [c_K])
  refine a_q rfl rfl ?_ ?_
  ·intro F hF hf d;have hFc:=hF.cell;have hFf:=hF.frozen;simp [a_k,a_f,go_sem];refine (CI.out (F d) (a_c I.out (hF.below d))).mono ?_;rintro e' w8 ⟨v8,rfl,J,L⟩;exact ⟨_,rfl,J.low (hF.below d).size,L⟩
  iterate 2
   (try simp only [c_K])
   refine a_l rfl rfl ?_;apply Exists.intro;refine ⟨fun F hF hf K hK=>?_,?_⟩
   ·have hFc:=hF.cell;have hFf:=hF.frozen
    go_big_quiet_op
    exact hK
  (try simp only [c_K])
  refine a_q rfl rfl ?_ ?_
  ·intro F hF hf d;have hFc:=hF.cell;have hFf:=hF.frozen;simp [a_k,a_f,go_sem];refine (CF.out (F d) (a_c I.out (hF.below d))).mono ?_;rintro e' w8 ⟨v8,rfl,J,L⟩;exact ⟨_,rfl,J.low (hF.below d).size,L⟩
  (try simp only [c_K])
  refine a_q rfl rfl ?_ ?_
  ·intro F hF hf d;have hFc:=hF.cell;have hFf:=hF.frozen;have h9:OwnK .i64 3 (F d) W0.heap.size (x 2) dd:=hf _ List.mem_cons_self (by rfl) d;have J:OwnK .i64 48 (F d) W0.heap.size (x 5) D:=hf _ (List.mem_cons_of_mem _ List.mem_cons_self) (by rfl) d;obtain ⟨p9,n9,c9,e9⟩:=h9.form_;obtain ⟨p8,n8,c8,e8⟩:=J.form_;rw [e9] at h9;rw [e8] at J;simp [a_k,a_f,go_sem,e9,e8];exact ⟨⟨_,_,_,_,_,_,rfl,h9,J⟩,Below.refl _ _⟩
  (try simp only [c_K])
  refine b_c ?_;exact rfl
 ·exact fun x=>rfl
 ·intro w1 xs ac hf;simp only [List.drop_succ_cons,List.drop_zero];have M:=hf _ (List.mem_cons_of_mem _ (List.mem_cons_of_mem _ List.mem_cons_self));obtain ⟨x2,e2⟩:∃ q,xs 2=q:=⟨_,rfl⟩
  obtain ⟨x5,e5⟩:∃ q,xs 5=q:=⟨_,rfl⟩
  obtain ⟨x6,e6⟩:∃ q,xs 6=q:=⟨_,rfl⟩
  simp only [e6] at M;simp only [e2,e5,e6];obtain ⟨pa,na,ca,pb,nb,cb,rfl,hs,ht⟩:=M;clear e2 e5 e6 hf CI CF a0 a1 k0;obtain ⟨HF,r0,r1,r2,r3,z0,z1⟩:=h_v XR I ac hs ht (by omega);clear hs ht;go_wp2;exact bodyPost_ret (v:=.agg #[.slice pa na ca,.slice pb nb cb]) (by simp [results,Tryz.results61,go_sem,z0,z1]) rfl ⟨_,rfl,HF.out⟩
theorem j_6 (B J:Nat) (ns:List Nd) (nd:Nd) (pa pb:Option Addr) (na ca nb cb:Nat) (ac:ns.length < 512) (w:World) (hT:TapC w B J ns) (hs:OwnK .i64 3 w B (.slice pa na ca) nd.D) (ht:OwnK .i64 48 w B (.slice pb nb cb) nd.X):
  Calls Tryz.prog 87 #[.pointer (some ⟨J,0,none⟩),.agg #[.int .i64 nd.op,.int .i64 nd.a,.int .i64 nd.b,.int .i64 nd.k,.slice pa na ca,.slice pb nb cb]] w fun e w'=>e = .returned (.int .i64 (ns.length:Int))/\TapC w' B J (ns++[nd])/\Below B w w'/\Only SC w w'/\Spare J w w'/\∀ H,OwnK .i64 3 w H (.slice pa na ca) nd.D->SpA H J w w':=by
 obtain ⟨op,a,bb,k,D,X⟩:=nd;have ag:Hid (TapC w B J ns):=hT;obtain ⟨R,O,V,hv,ho,af,ae⟩:=Tap.head hT;obtain ⟨N,eN⟩:∃ N,ns.length=N:=⟨_,rfl⟩
 rw [eN] at hv ho ae;have ak:=(b_G hv).1;have hz:=a_i hv;rw [eN];have hl:Hid (N < 512):=by show _ < _;rw [<- eN];exact ac
 have ay:Hid (B<=w.heap.size):=Nat.le_trans ag.out.1 (Nat.le_of_lt hz);have HS:Hid (OwnK .i64 3 w B (.slice pa na ca) D/\OwnK .i64 48 w B (.slice pb nb cb) X):=⟨hs,ht⟩
 clear hT hv ho af ae hs ht ac ak hz O V R;go_enter Tryz.func87,Tryz.ntmps87;go_wp2_with fail
 refine a_P (fun L ao=>?_);have az:L.heap[w.heap.size]?=some (.cells #[.int .i64 op,.int .i64 a,.int .i64 bb,.int .i64 k,.slice pa na ca,.slice pb nb cb] 107 (0,0)):=by rw [ao];exact heap_alloc_new _ _
 have I:Below w.heap.size w L:=by rw [ao];exact a_b _ _
 have ad:Hid (Below B w L/\B<=L.heap.size/\Only SC w L/\Spare J w L/\Below w.heap.size w L):=⟨I.mono ay.out,Nat.le_trans ay.out I.size,Only.of I,Spare.of I,I⟩
 have ai:Hid (NdC L B ⟨op,a,bb,k,D,X⟩ [.int .i64 op,.int .i64 a,.int .i64 bb,.int .i64 k,.slice pa na ca,.slice pb nb cb]):=⟨_,_,rfl,HS.out.1.up I,HS.out.2.up I⟩
 have ap:=ag.out.up I;obtain ⟨R,O,V,hv,ho,af,ae⟩:=Tap.head ap;rw [eN] at hv ho;have E:Hid (B<=J/\L.heap[J]?=some (.cells #[.slice R N O] 89 (0,0))/\ns.length=N/\L.ownsRow B 107 6 (.slice R N O) N V/\NdsC L B ns V):=⟨ag.out.1,hv,eN,ho,af⟩
 have ab:∀ z,Value.ownBlock (.slice R N O)=some z->z < w.heap.size:=fun z an=>by
  have h3:=ag.out;obtain ⟨aK,aJ,aL,aj,ar,_,_⟩:=Tap.head h3;rw [eN] at aj ar;have h4:=I.block J (a_i aj);rw [hv,aj] at h4;cases h4;exact (World.ownsRow.lt ar z an).2
 have am:Hid (L.heap[w.heap.size]?=some (.cells #[.int .i64 op,.int .i64 a,.int .i64 bb,.int .i64 k,.slice pa na ca,.slice pb nb cb] 107 (0,0))/\some w.heap.size≠Value.ownBlock (.slice R N O)):=⟨az,fun h=>by have:=ab _ h.symm;omega⟩
 have aE:Hid (∀ z,Value.ownBlock (.slice R N O)=some z->z < L.heap.size):=fun z an=>Nat.lt_of_lt_of_le (ab z an) I.size;have aI:Hid (∀ z∈([.int .i64 op,.int .i64 a,.int .i64 bb,.int .i64 k,.slice pa na ca,.slice pb nb cb]:List Value),z.oneCell'=true):=ai.out.one;clear hv ho af ae ab ao ap I az HS;refine d_U (by kernel_rfl) ?_;refine seg (fun q W=>match q with|false=>Below L.heap.size L W|true=>L.grownBy W (Value.ownBlock (.slice R N O))) (fun W W'=>W.grownBy W' (Value.ownBlock (.slice R N O))) 7 [⟨6,11,LitS 107 L.heap.size [.int .i64 op,.int .i64 a,.int .i64 bb,.int .i64 k,.slice pa na ca,.slice pb nb cb]⟩,⟨7,12,OwnL 107 B (N+1) (V++[.int .i64 op,.int .i64 a,.int .i64 bb,.int .i64 k,.slice pa na ca,.slice pb nb cb]) (Value.ownBlock (.slice R N O)) L.heap.size⟩] 0 10 21 rfl rfl (by kernel_rfl) (by rfl) ?_ ?_ ?_ ?_ ?_ ?_
 ·intro q W W' h hb;cases q
  ·exact a_c h hb
  ·exact g_T h hb
 ·exact ⟨rfl,rfl,rfl,Nat.le_refl _,fun _ _=>rfl⟩
 ·exact .inl ⟨_,List.mem_cons_of_mem _ List.mem_cons_self,rfl⟩
 ·intro e he v W W' h hb;simp only [List.mem_cons,List.not_mem_nil,or_false] at he;rcases he with rfl|rfl
  ·exact LitS.up h hb
  ·exact OwnL.up h hb
 ·intro e he aB v W W' h hc ht;simp only [List.mem_cons,List.not_mem_nil,or_false] at he;rcases he with rfl|rfl
  ·exact LitS.grown h ht aE.out
  ·exact absurd rfl aB
 apply Exists.intro;refine ⟨fun x=>?_,?_,?_⟩
 ·simp only [List.drop_succ_cons,List.drop_zero,List.take_succ_cons,List.take_zero]
  iterate 4
   refine b_S rfl rfl ?_;apply Exists.intro;refine ⟨fun b F hF hf K hK=>?_,?_⟩
   ·have hFc:=hF.cls
    go_big_quiet_op
    exact hK
   (try simp only [c_K])
  refine b_S rfl rfl ?_;apply Exists.intro;refine ⟨fun b F hF hf K hK=>?_,?_⟩
  ·have hFc:=hF.cls
   have q0:∀ d,(F d).cell? ⟨J,0,none⟩=some (.slice R N O):=fun d=>by
    have hK:L.grownBy (F d) (Value.ownBlock (.slice R N O)):=by
     cases b
     ·exact b_g _ (hFc d)
     ·exact hFc d
    exact hK.cell (b_G E.out.2.1).1 (Ne.symm (e_b o_B E.out.2.1 E.out.2.2.2.1))
   clear hFc
   go_big_quiet_op
   exact hK
  (try simp only [c_K])
  refine b_S rfl rfl ?_;apply Exists.intro;refine ⟨fun b F hF hf K hK=>?_,?_⟩
  ·have hFc:=hF.cls
   have q0:∀ d,(F d).heap[w.heap.size]?=some (.cells #[.int .i64 op,.int .i64 a,.int .i64 bb,.int .i64 k,.slice pa na ca,.slice pb nb cb] 107 (0,0)):=fun d=>by
    have hK:L.grownBy (F d) (Value.ownBlock (.slice R N O)):=by
     cases b
     ·exact b_g _ (hFc d)
     ·exact hFc d
    rw [hK.block _ (a_i am.out.1) am.out.2];exact am.out.1
   have q1:=fun d=>(g_s (q0 d)).1.1;have q2:=fun d=>(g_s (q0 d)).1.2.1;have q3:=fun d=>(g_s (q0 d)).1.2.2.1;have q4:=fun d=>(g_s (q0 d)).1.2.2.2.1;have q5:=fun d=>(g_s (q0 d)).1.2.2.2.2.1;have q6:=fun d=>(g_s (q0 d)).1.2.2.2.2.2;clear hFc q0
   go_big_quiet_op
   exact hK
  (try simp only [c_K])
  refine i_T rfl (by decide) rfl ?_ ?_
  ·intro b F hF hf d;have hFc:=hF.cls
   have aw:L.heap.size<=(F d).heap.size:=by
    cases b
    ·exact (hFc d).size
    ·exact (hFc d).size
   simp [a_k,a_f,go_sem];exact ⟨⟨(F d).heap.size,rfl,heap_alloc_new (F d) _,aw⟩,a_b _ _⟩
  (try simp only [c_K])
  refine i_U rfl rfl rfl ?_ ?_
  ·intro W hW hf;have h7:=hf _ List.mem_cons_self (by rfl) W;obtain ⟨g7,e7,aF,_⟩:=h7;simp only [] at e7;obtain ⟨g8,c8,w8,aC,aG,ah,U⟩:=t_X t_h (by decide) 87 W B (.slice R N O) N V (a_C (S:=[]) E.out.2.2.2.1 (Only.of hW) (by simp)) g7 [.int .i64 op,.int .i64 a,.int .i64 bb,.int .i64 k,.slice pa na ca,.slice pb nb cb] aF rfl aI.out (by have:=hl.out;omega) (Nat.le_trans E.out.1 (Nat.le_trans (Nat.le_of_lt (a_i E.out.2.1)) (Below.size hW)));simp [b_P,b_O,execOp,resolve,invoke,builtin,Act.eval,e7,aC,Result.andThen];exact ⟨⟨aG,g8,c8,rfl,U.imp id fun e=>by rw [e];exact Below.size hW⟩,d_T (b_g _ hW) ah,ah⟩
  iterate 2
   (try simp only [c_K])
   refine b_S rfl rfl ?_;apply Exists.intro;refine ⟨fun b F hF hf K hK=>?_,?_⟩
   ·have hFc:=hF.cls
    go_big_quiet_op
    exact hK
  (try simp only [c_K])
  refine m_B ?_;exact rfl
 ·exact fun x=>rfl
 ·intro w8 av aA aq;have M:L.grownBy w8 (Value.ownBlock (.slice R N O)):=aA;refine f_L 10 (by kernel_rfl) ?_;simp only [List.drop_succ_cons,List.drop_zero];have h8:=aq _ (List.mem_cons_of_mem _ List.mem_cons_self);obtain ⟨x6,e6⟩:∃ z,av 6=z:=⟨_,rfl⟩
  obtain ⟨x7,e7⟩:∃ z,av 7=z:=⟨_,rfl⟩
  simp only [e7] at h8;simp only [e6,e7];obtain ⟨h8,g8,c8,rfl,U⟩:=h8;obtain ⟨ax,au⟩:=Tap.push (TT:=89) (NT:=107) o_B (by decide) (by decide) (nd:=⟨op,a,bb,k,D,X⟩) E.out.1 E.out.2.1 (by rw [E.out.2.2.1];exact E.out.2.2.2.1) E.out.2.2.2.2 ai.out M (by rw [E.out.2.2.1];exact h8)
  have aa:w8.heap[J]?=some (.cells #[.slice R N O] 89 (0,0)):=by
   rw [M.block J (a_i E.out.2.1) (Ne.symm (e_b o_B E.out.2.1 E.out.2.2.2.1))];exact E.out.2.1
  obtain ⟨r0,r1⟩:=b_G aa;have z0:=(b_G (v:=.slice (some ⟨g8,0,none⟩) (N+1) c8) (e:=89) (W:=w8.setCell ⟨J,0,none⟩ (.slice (some ⟨g8,0,none⟩) (N+1) c8)) (by rw [a_n aa];rfl)).1
  have HF:Hid (TapC (w8.setCell ⟨J,0,none⟩ (.slice (some ⟨g8,0,none⟩) (N+1) c8)) B J (ns++[⟨op,a,bb,k,D,X⟩])/\Below B w (w8.setCell ⟨J,0,none⟩ (.slice (some ⟨g8,0,none⟩) (N+1) c8))/\Only SC w (w8.setCell ⟨J,0,none⟩ (.slice (some ⟨g8,0,none⟩) (N+1) c8))/\Spare J w (w8.setCell ⟨J,0,none⟩ (.slice (some ⟨g8,0,none⟩) (N+1) c8))/\∀ H,OwnK .i64 3 w H (.slice pa na ca) D->SpA H J w (w8.setCell ⟨J,0,none⟩ (.slice (some ⟨g8,0,none⟩) (N+1) c8))):=by
   refine ⟨ax,(Below.grown ad.out.1 M ad.out.2.1 (k_P E.out.2.2.2.1)).setCell (p:=⟨J,0,none⟩) E.out.1 _,ad.out.2.2.1.trans au,ad.out.2.2.2.1.trans ?_,fun H hH x hx ha=>q_J E.out.2.1 E.out.2.2.2.1 (by rw [E.out.2.2.2.2.1,E.out.2.2.1]) aa h8 rfl (m_G hH hx) (ha.up ad.out.2.2.2.2)⟩;intro x v hv hn hx ho;rw [E.out.2.1] at hv;cases hv;refine ⟨?_,_,(a_n aa).trans rfl,?_⟩
   ·rw [a_X _ _ _ _ _ hn];exact M.block x hx (Ne.symm ho)
   ·intro e;have e':g8=x:=by simpa [Value.ownBlock] using e
    rcases U with h|h
    ·exact ho (by rw [h,e'])
    ·omega
  clear ax au aA M h8 aq aa U;have aD:((N+1:Nat):Int) - 1=(N:Int):=by omega
  have aH:wrap64 (N:Int)=(N:Int):=by have:=hl.out;unfold wrap64;omega
  go_wp2;exact bodyPost_ret (v:=.int .i64 (N:Int)) (by simp [results,Tryz.results87,go_sem,aD,aH]) rfl ⟨rfl,HF.out⟩
theorem k_R (B J:Nat) (ns:List Nd) (p V:Option Addr) (n c R O:Nat) (dd H:List Int) (hd:RI dd) (w:World) (M:TapC w B J ns) (h1:Nums .i64 w (.slice p n c) dd) (h2:Nums .i64 w (.slice V R O) H) (D:512<=ns.length):
  Calls Tryz.prog 71 #[.pointer (some ⟨J,0,none⟩),.agg #[.slice p n c,.slice V R O]] w fun e U=>e = .returned (.tuple #[.int .i64 (f_O ns dd H),.int .i64 (f_N ns dd H)])/\TapC U B J (c_S ns dd H)/\Below B w U/\Only SC w U/\Spar2 J w U:=by
 have ab:Hid (B<=w.heap.size):=Nat.le_trans M.1 (Nat.le_of_lt (by obtain ⟨_,_,_,hv,_⟩:=Tap.head M;exact a_i hv));have L:Hid (TapC w B J ns):=M;have HN:Hid (Nums .i64 w (.slice p n c) dd/\Nums .i64 w (.slice V R O) H/\RI dd):=⟨h1,h2,hd⟩
 have hf:decide (512<=ns.length)=true:=decide_eq_true D;have e1:f_N ns dd H=2:=if_pos D;have e2:f_O ns dd H=0:=if_neg fun h=>by omega
 have e3:c_S ns dd H=ns:=if_neg fun h=>by omega
 rw [e1,e2,e3];clear M e1 e2 e3 h1 h2 hd D;go_enter Tryz.func71,Tryz.ntmps71;go_wp2_with fail
 generalize I:World.alloc _ _=W0;have E:=b_1 (w:=w) I (by go_grown);have XA:Hid (Cel W0 w.heap.size (.slice p n c) (.slice V R O)):=a_F I (by simp [go_sem]);clear I;refine (c_i B J ns true hf W0 (L.out.up E.out)).mono ?_;rintro e w1 ⟨rfl,aa⟩;subst aa;clear hf;go_wp2;exact bodyPost_ret (v:=.tuple #[.int .i64 0,.int .i64 2]) (by simp [results,Tryz.results71,go_sem]) rfl ⟨rfl,L.out.up E.out,E.out.mono ab.out,Only.of E.out,Spar2.of E.out⟩
theorem m_H (B M:Nat) (ns:List Nd) (p U:Option Addr) (n c R O:Nat) (dd D:List Int) (hd:RI dd) (w:World) (hT:TapC w B M ns) (h1:Nums .i64 w (.slice p n c) dd) (h2:Nums .i64 w (.slice U R O) D) (J:ns.length < 512) (V:¬ isP dd D):
  Calls Tryz.prog 71 #[.pointer (some ⟨M,0,none⟩),.agg #[.slice p n c,.slice U R O]] w fun e w'=>e = .returned (.tuple #[.int .i64 (f_O ns dd D),.int .i64 (f_N ns dd D)])/\TapC w' B M (c_S ns dd D)/\Below B w w'/\Only SC w w'/\Spar2 M w w':=by
 have ac:Hid (B<=w.heap.size):=Nat.le_trans hT.1 (Nat.le_of_lt (by obtain ⟨_,_,_,hv,_⟩:=Tap.head hT;exact a_i hv));have aa:Hid (TapC w B M ns):=hT;have HN:Hid (Nums .i64 w (.slice p n c) dd/\Nums .i64 w (.slice U R O) D/\RI dd):=⟨h1,h2,hd⟩
 have hf:decide (512<=ns.length)=false:=decide_eq_false (by omega);have hq:decide (isP dd D)=false:=decide_eq_false V;have e1:f_N ns dd D=1:=(if_neg (by omega)).trans (if_neg V);have e2:f_O ns dd D=0:=if_neg fun h=>V h.2;have e3:c_S ns dd D=ns:=if_neg fun h=>V h.2;rw [e1,e2,e3];clear hT e1 e2 e3 h1 h2 hd J V;go_enter Tryz.func71,Tryz.ntmps71;go_wp2_with fail
 generalize I:World.alloc _ _=W0;have H:=b_1 (w:=w) I (by go_grown);have XA:Hid (Cel W0 w.heap.size (.slice p n c) (.slice U R O)):=a_F I (by simp [go_sem]);clear I;refine (c_i B M ns false hf W0 (aa.out.up H.out)).mono ?_;rintro e w1 ⟨rfl,ab⟩;subst ab;clear hf;obtain ⟨a0,a1,_,_⟩:=XA.out;have k0:=a_a a0;go_wp2_with fail
 refine (a_B (.slice p n c) (.slice U R O) dd D HN.out.2.2 w1 (HN.out.1.up H.out) (HN.out.2.1.up H.out)).mono ?_;rintro e w2 ⟨rfl,L⟩;rw [hq];have E:=a_N (a_c H.out L) L;clear L;clear hq;go_wp2;exact bodyPost_ret (v:=.tuple #[.int .i64 0,.int .i64 1]) (by simp [results,Tryz.results71,go_sem]) rfl ⟨rfl,aa.out.up E.out.1,E.out.1.mono ac.out,Only.of E.out.1,Spar2.of E.out.1⟩
theorem k_S (B L:Nat) (ns:List Nd) (p V:Option Addr) (n c U c2:Nat) (dd E:List Int) (hd:RI dd) (w:World) (hT:TapC w B L ns) (h1:Nums .i64 w (.slice p n c) dd) (h2:Nums .i64 w (.slice V U c2) E) (D:ns.length < 512) (hp:isP dd E):
  Calls Tryz.prog 71 #[.pointer (some ⟨L,0,none⟩),.agg #[.slice p n c,.slice V U c2]] w fun e w'=>e = .returned (.tuple #[.int .i64 (f_O ns dd E),.int .i64 (f_N ns dd E)])/\TapC w' B L (c_S ns dd E)/\Below B w w'/\Only SC w w'/\Spar2 L w w':=by
 have R:Hid (B<=w.heap.size):=Nat.le_trans hT.1 (Nat.le_of_lt (by obtain ⟨_,_,_,hv,_⟩:=Tap.head hT;exact a_i hv));have ae:Hid (TapC w B L ns):=hT;have HN:Hid (Nums .i64 w (.slice p n c) dd/\Nums .i64 w (.slice V U c2) E/\RI dd):=⟨h1,h2,hd⟩
 have hf:decide (512<=ns.length)=false:=decide_eq_false (by omega);have hq:decide (isP dd E)=true:=decide_eq_true hp;have HP:Hid (isP dd E/\ns.length < 512):=⟨hp,D⟩
 have e1:f_N ns dd E=0:=(if_neg (by omega)).trans (if_pos hp);have e2:f_O ns dd E=(ns.length:Int):=if_pos ⟨D,hp⟩;have e3:c_S ns dd E=ns++[⟨1,-1,-1,0,dd,E⟩]:=if_pos ⟨D,hp⟩;rw [e1,e2,e3];clear hT e1 e2 e3 h1 h2 hd D hp;go_enter Tryz.func71,Tryz.ntmps71;go_wp2_with fail
 generalize M:World.alloc _ _=W0;have I:=b_1 (w:=w) M (by go_grown);have XA:Hid (Cel W0 w.heap.size (.slice p n c) (.slice V U c2)):=a_F M (by simp [go_sem]);clear M;refine (c_i B L ns false hf W0 (ae.out.up I.out)).mono ?_;rintro e w1 ⟨rfl,ag⟩;subst ag;clear hf;obtain ⟨a0,a1,_,_⟩:=XA.out;have k0:=a_a a0;go_wp2_with fail
 refine (a_B (.slice p n c) (.slice V U c2) dd E HN.out.2.2 w1 (HN.out.1.up I.out) (HN.out.2.1.up I.out)).mono ?_;rintro e w2 ⟨rfl,O⟩;rw [hq];have H:=a_N (a_c I.out O) O;clear O;clear hq;replace a0:=a_d a0 H.out.2;replace a1:=a_d a1 H.out.2;replace k0:=a_a a0;go_wp2_with fail
 refine (f_R p V n c U c2 dd E HP.out.1 w2 (HN.out.1.up H.out.1) (HN.out.2.1.up H.out.1)).mono ?_;rintro e w3 ⟨v3,rfl,⟨s3,t3,rfl,hs,ht⟩,ad⟩;obtain ⟨pa,na,ca,rfl⟩:=hs.form_;obtain ⟨pb,nb,cb,rfl⟩:=ht.form_;have J:Hid (Below w.heap.size w w3):=a_c H.out.1 ad;have HO:Hid (OwnK .i64 3 w3 B (.slice pa na ca) dd/\OwnK .i64 48 w3 B (.slice pb nb cb) E/\OwnK .i64 3 w3 w.heap.size (.slice pa na ca) dd):=⟨hs.low (Nat.le_trans R.out H.out.1.size),ht.low (Nat.le_trans R.out H.out.1.size),hs.low H.out.1.size⟩
 clear hs ht ad a0 a1 k0;go_wp2_with fail
 refine (j_6 B L ns ⟨1,-1,-1,0,dd,E⟩ pa pb na ca nb cb HP.out.2 w3 (ae.out.up J.out) HO.out.1 HO.out.2.1).mono ?_;rintro e w4 ⟨rfl,ab,ac,af,aa⟩;have HF:Hid (TapC w4 B L (ns++[⟨1,-1,-1,0,dd,E⟩])/\Below B w w4/\Only SC w w4/\Spar2 L w w4):=⟨ab,i_c (J.out.mono R.out) ac,(Only.of J.out).trans af,Spar2.kept J.out aa HO.out.2.2⟩
 clear ab ac af aa HO;go_wp2;exact bodyPost_ret (v:=.tuple #[.int .i64 (ns.length:Int),.int .i64 0]) (by simp [results,Tryz.results71,go_sem]) rfl ⟨rfl,HF.out⟩
theorem j_7 (B E:Nat) (ns:List Nd) (hG:NodesG ns) (p J:Option Addr) (n c I H:Nat) (dd D:List Int) (O:RI dd) (hy:RI D) (w:World) (M:TapC w B E ns) (U:Nums .i64 w (.slice p n c) dd) (R:Nums .i64 w (.slice J I H) D):
  Calls Tryz.prog 71 #[.pointer (some ⟨E,0,none⟩),.agg #[.slice p n c,.slice J I H]] w fun e L=>e = .returned (.tuple #[.int .i64 (f_O ns dd D),.int .i64 (f_N ns dd D)])/\TapC L B E (c_S ns dd D)/\Below B w L/\Only SC w L/\Spar2 E w L:=by
 by_cases hf:512<=ns.length
 ·exact k_R B E ns p J n c I H dd D O w M U R hf
 ·by_cases V:isP dd D
  ·exact k_S B E ns p J n c I H dd D O w M U R (by omega) V
  ·exact m_H B E ns p J n c I H dd D O w M U R (by omega) V
theorem NodesG.lyF {ns sts:List Nd} (h:NodesG ns) (D:∀ i,RI (stA sts i).X):∀ i,NodesG (lyF sts ns i).2.1
 | 0=>h
 | i+1=>by
  show NodesG (if (Wd.lyF sts ns i).1=0 then (lsE (Wd.lyF sts ns i).2.1 (stA sts i),lsN (Wd.lyF sts ns i).2.1 (stA sts i),lsR (Wd.lyF sts ns i).2.1 (stA sts i)) else Wd.lyF sts ns i).2.1
  split
  ·exact (NodesG.lyF h D i).ls (D i)
  ·exact NodesG.lyF h D i
theorem NodesG.lo {ns sts:List Nd} {e:Int} (h:NodesG ns) (D:∀ i,RI (stA sts i).X):NodesG (loN e ns sts):=by
 unfold loN
 split
 ·unfold lyM
  split
  ·exact NodesG.lyF h D _
  ·exact h
 ·exact h
theorem t_i {N o:Int} {y:List Int} (D:RI y):∀ i,RI (stA (sqS N o y) i).X
 | 0=>D
 | 1=>b_M
 | 2=>b_M
 | 3=>b_M
 | _+4=>b_M
theorem t_j {N o:Int} {y:List Int} (D:RI y):∀ i,RI (stA (szS N o y) i).X
 | 0=>D
 | 1=>b_M
 | 2=>b_M
 | 3=>b_M
 | _+4=>b_M
theorem m_I {m:Nat} {a c t:Int} (E:InR a) (D:InR t):RI (l_g m a c t):=fun y H=>by
 rcases List.mem_or_eq_of_mem_set H with h|h
 ·rw [(List.mem_replicate.1 h).2];exact E
 ·rw [h];exact D
theorem t_k {N o:Int} {n:Nat} {c:Int}:∀ i,RI (stA (hgS N o n c) i).X
 | 0=>m_I (by unfold InR;omega) (by unfold InR;omega)
 | 1=>m_I (by unfold InR;omega) (by unfold InR;omega)
 | 2=>b_M
 | 3=>b_M
 | 4=>b_M
 | 5=>b_M
 | 6=>b_M
 | 7=>b_M
 | 8=>b_M
 | _+9=>b_M
/-- A box that holds a tensor of one number. -/
def VBox (W:World) (b:Nat) (A:Int):Prop:=∃ s g c,W.heap[b]?=some (.cells #[s,.slice (some ⟨g,0,none⟩) 1 c] 77 (0,0))/\W.cell? ⟨g,0,none⟩=some (.int .i64 A)
theorem VBox.cells {W:World} {b:Nat} {A:Int} (h:VBox W b A):∃ g c,W.cell? ⟨b,1,none⟩=some (.slice (some ⟨g,0,none⟩) 1 c)/\W.cell? ⟨g,0,none⟩=some (.int .i64 A)/\b < W.heap.size/\g < W.heap.size:=by
 obtain ⟨s,g,c,E,D⟩:=h;exact ⟨g,c,by unfold World.cell?;simp [E],D,a_i E,a_a D⟩
theorem VBox.new {W:World} {B g c:Nat} {s:Value} {A:Int} (h:OwnK .i64 48 W B (.slice (some ⟨g,0,none⟩) 1 c) [A]):VBox (W.alloc (.cells #[s,.slice (some ⟨g,0,none⟩) 1 c] 77)) W.heap.size A:=
 ⟨s,g,c,heap_alloc_new _ _,a_d (h.cell rfl 0 (by decide)).1 (a_b _ _)⟩
end Go.Proofs.YtcpbhhlepdgdkaaGreatDoor.Wd
namespace Go.Proofs.YtcpbhhlepdgdkaaGreatDoor.Wd
open Go.RowKit
abbrev i_d (d x d':List Int):Prop:=(isP d x/\goodN (ntl d'))/\b_x d' d=0/\b_W d' d=d
def c_3 (d x d':List Int):Int:=if isP d x/\goodN (ntl d') then if b_x d' d=0/\b_W d' d=d then 0 else 4 else 1
def i_e (d x d':List Int):List Int:=if i_d d x d' then d' else []
def i_f (d x d':List Int):List Int:=if i_d d x d' then c_8 (fun a b=>Fx.hold (a+b)) (b_U (ntl d') (ntl d)) (fun i=>x.getD i 0) (a_e (ntl d')) x.length else []
/-- The one is spread to the other. -/
structure Under (d x d':List Int) (a b:List Nat):Prop where
 da:d=itl a
 db:d'=itl b
 ga:goodN a
 gb:goodN b
 lx:x.length=a_e a
 fb:b_2 b a
 jb:joinN b a=a
theorem q_K {d x d':List Int} (h:i_d d x d'):∃ a b,Under d x d' a b:=by
 obtain ⟨⟨⟨U,J⟩,R⟩,M,O⟩:=h;obtain ⟨a,E,rfl⟩:=b_n U;obtain ⟨b,I,rfl⟩:=b_n R;obtain ⟨_,_,D,L⟩:=g_e M;rw [a_p,a_p] at D L;rw [a_p] at J;have H:=(b_u I E D L).1;rw [O] at H;exact ⟨a,b,rfl,rfl,E,I,J,D,(p_Q H).symm⟩
theorem Under.V {d x d':List Int} {a b:List Nat} (h:Under d x d' a b) (D:i_d d x d'):c_3 d x d'=0/\i_e d x d'=itl b/\i_f d x d'=c_8 (fun a b=>Fx.hold (a+b)) (b_U b a) (fun i=>x.getD i 0) (a_e b) (a_e a):=by
 unfold c_3 i_e i_f;rw [if_pos D.1,if_pos D.2,if_pos D,if_pos D];refine ⟨rfl,h.db,?_⟩;rw [h.lx,h.da,h.db,a_p,a_p]
theorem j_8 {f:Nat->Nat} {v:Nat->Int} {S:Nat} (k:Nat):∀ y,y∈c_8 (fun a b=>Fx.hold (a+b)) f v S k->Fx.InR y:=by
 induction k with
 | zero=>
  intro y D;have:=List.eq_of_mem_replicate D;subst this;unfold Fx.InR;omega
 | succ k ih=>
  intro y D;rw [c_8] at D;rcases List.mem_or_eq_of_mem_set D with h|h
  ·exact ih y h
  ·rw [h];exact Fx.hold_rng _
end Go.Proofs.YtcpbhhlepdgdkaaGreatDoor.Wd
