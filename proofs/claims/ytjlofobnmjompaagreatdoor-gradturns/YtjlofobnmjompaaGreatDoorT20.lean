/- Of nodes that were reckoned of those ahead of them nothing refuses what a gradient is taken through. · tens.Fold, where all fits. · The code's back: what two calls of other packages give, one behind the other. · conv.BackIn, where all fits. · conv.BackKernel, where all fits. -/
import Derived.Test.YtjlofobnmjompaaGreatDoorT19
import Derived.Test.YtjlofobnmjompaaGreatDoorT18
import Derived.Test.YtjlofobnmjompaaGreatDoorT02
import Derived.Test.YtjlofobnmjompaaGreatDoorT11
import Derived.Test.YtjlofobnmjompaaGreatDoorT06
import Derived.Test.YtjlofobnmjompaaGreatDoorT14
set_option linter.unusedVariables false
set_option linter.unusedSimpArgs false
set_option maxHeartbeats 16000000
set_option maxRecDepth 16000
namespace Go.Proofs.YtjlofobnmjompaaGreatDoor.Wd
open Go.RowKit Fx
/-- A node's Op, its number, the two that it is of, a gradient of it. -/
def OkP (op K:Int) (a b g:Ten):Prop:=b_b a/\b_b g/\(c_0 op->b_b b)/\rkE op a.1 a.2 b.1 b.2 K=0/\g.1=rkD op a.1 a.2 b.1 b.2 K
theorem j_3 {d x d':List Int} (h:h_Z d x d'):c_1 d x d'=0:=(if_pos h.1).trans (if_pos h.2)
/-- Ops 2, 3, 4. -/
theorem e_C {a b g:Ten} (V:b_b a) (hb:b_b b) (hE:b_u a.1 a.2 b.1 b.2=0) (D:b_b g) (eg:g.1=b_x a.1 a.2 b.1 b.2):
  (c_1 g.1 g.2 a.1=0/\c_1 g.1 g.2 b.1=0)/\(c_1 (d_g g (-4294967296)).1 (d_g g (-4294967296)).2 b.1=0/\e_H g.1 g.2=0)
  /\ (b_u g.1 g.2 b.1 b.2=0/\c_1 (i_f g b).1 (i_f g b).2 a.1=0/\b_b (i_f g b))/\b_u g.1 g.2 a.1 a.2=0/\c_1 (i_f g a).1 (i_f g a).2 b.1=0/\b_b (i_f g a):=by
 have hp:isP a.1 a.2/\isP b.1 b.2:=⟨V.1,hb.1⟩
 have hj:b_w a.1 b.1=0:=(if_pos hp).symm.trans hE;obtain ⟨A,B,J,h⟩:=n_L hp hj;have I:g.1=itl J:=eg.trans (h.E (op:=fun a b=>a)).2.1;have pg:∀ t:Ten,b_b t->t.1=g.1->isP (itl J) t.2:=fun t U R=>by rw [<- I,<- R];exact U.1
 have O:∀ t:Ten,b_b t->t.1=g.1->c_1 t.1 t.2 a.1=0/\c_1 t.1 t.2 b.1=0:=fun t U R=>by
  have hf:=g_n h (pg t U R);rw [<- I,<- R] at hf;exact ⟨j_3 hf.1,j_3 hf.2⟩
 have me:∀ (s:Ten) (c:List Nat),b_b s->s.1=itl c->goodN c->b_W c J->joinN c J=J->b_u g.1 g.2 s.1 s.2=0:=fun s c M ec gc fc jc=>by
  have f2:b_W J c:=fun i H L=>by
   have:=fc i H (by omega);rcases this with h|h|h
   ·exact .inl h.symm
   ·exact .inr (.inr h)
   ·exact .inr (.inl h)
  have j2:joinN J c=J:=by rw [b_Z];exact jc
  obtain ⟨p1,p2⟩:=b_o h.gJ gc f2 (by rw [j2];exact h.gJ);exact (if_pos ⟨D.1,M.1⟩).trans (by rw [I,ec];exact p2)
 have H:=o_o D hb I h.db h.gJ h.gb h.fb h.jb;have L:=o_o D V I h.da h.gJ h.ga h.fa h.ja;have M:=e_X D (-4294967296);exact ⟨O g D rfl,⟨(O _ M.1 M.2).2,if_pos D.1⟩,⟨me b B hb h.db h.gb h.fb h.jb,(O _ H.1 H.2).1,H.1⟩,me a A V h.da h.ga h.fa h.ja,(O _ L.1 L.2).2,L.1⟩
/-- Op 12. -/
theorem g_o {k:Int} {a b g:Ten} (ha:b_b a) (hb:b_b b) (D:rwE a.1 a.2 b.1 b.2 k=0) (hg:b_b g) (eg:g.1=rwD a.1 a.2 b.1 b.2 k):
  (biE g.1 g.2 b.1 b.2 k (a.1.getD 1 0)=0/\bkE g.1 g.2 a.1 a.2 k (b.1.getD 2 0)=0)/\a.1.length=2/\b.1.length=3:=by
 have aa:rwA a.1 a.2 b.1 b.2 k/\rwS a.1 b.1/\goodN (ntl (rwO a.1 b.1 k)):=by
  unfold rwE at D;by_cases V:rwA a.1 a.2 b.1 b.2 k
  ·rw [if_pos V] at D;by_cases U:rwS a.1 b.1
   ·rw [if_pos U] at D;unfold f_1 at D;by_cases hq:goodN (ntl (rwO a.1 b.1 k))
    ·exact ⟨V,U,hq⟩
    ·rw [if_neg hq] at D;cases D
   ·rw [if_neg U] at D;cases D
  ·rw [if_neg V] at D;cases D
 obtain ⟨J,I,hG⟩:=aa;have ab:g.1=rwO a.1 b.1 k:=eg.trans ((if_pos ⟨J,I⟩).trans (if_pos hG));obtain ⟨st,rfl⟩:∃ q:Nat,k=q:=⟨k.toNat,by have:=J.2.2;omega⟩
 obtain ⟨aD,aX⟩:=a;obtain ⟨bD,bX⟩:=b;obtain ⟨gD,gX⟩:=g;obtain ⟨R,L,rfl,ac,k0,k1,k2⟩:=a_X ha.1 I.1;obtain ⟨O,R',wd,rfl,ad,l0,l1,l2,l3⟩:=c_d hb.1 I.2.1;obtain rfl:R=R':=by have:=I.2.2.1;simp at this;omega
 have hw:wd<=L:=by have:=I.2.2.2;simp at this;omega
 obtain ⟨S,H⟩:∃ S,a_L L wd st=S:=⟨_,rfl⟩
 have M:gD = [(O:Int),(S:Int)]:=ab.trans (by rw [<- H];rfl);subst M;have z:=c_M k2 k0 k1;have zw:wd<=4096:=by omega
 have b1:biA [(O:Int),(S:Int)] gX [(O:Int),(R:Int),(wd:Int)] bX st L:=⟨hg.1,hb.1,J.2.2,by omega,by omega⟩
 have b2:biA [(O:Int),(S:Int)] gX [(R:Int),(L:Int)] aX st wd:=⟨hg.1,ha.1,J.2.2,by omega,by omega⟩
 refine ⟨⟨(i_A b1 hw H).1.trans (if_pos ha.1.1),(i_B b2 hw H).1.trans (if_pos hb.1.1)⟩,rfl,rfl⟩
/-- Op 11, 13, 14, 7, 8: what a node of that kind says of the one that it is of. -/
theorem m_A {k:Int} {a g:Ten} (L:b_b a) (D:f_2 k a.1 a.2=0) (J:b_b g) (I:g.1=i_D k a.1 a.2):q_u k a.1 a.2 g.1 g.2=0:=by
 have H:(1<=k/\k<=5)/\isP a.1 a.2:=by
  unfold f_2 at D;by_cases h:(1<=k/\k<=5)/\isP a.1 a.2
  ·exact h
  ·rw [if_neg h] at D;cases D
 have e:g.1=a.1:=I.trans (if_pos H);exact (if_pos ⟨H.1,L.1,J.1⟩).trans (if_pos e.symm)
theorem q_B {a g:Ten} (J:b_b a) (D:j_A a.1 a.2 [(a.2.length:Int)]=0) (I:b_b g) (M:g.1=j_B a.1 a.2 [(a.2.length:Int)]):j_A g.1 g.2 a.1=0:=by
 have H:(isP a.1 a.2/\goodN (ntl [(a.2.length:Int)]))/\a_e (ntl [(a.2.length:Int)])=a.2.length:=by
  unfold j_A at D;by_cases h:isP a.1 a.2/\goodN (ntl [(a.2.length:Int)])
  ·rw [if_pos h] at D;by_cases L:a_e (ntl [(a.2.length:Int)])=a.2.length
   ·exact ⟨h,L⟩
   ·rw [if_neg L] at D;cases D
  ·rw [if_neg h] at D;cases D
 have e:g.1 = [(a.2.length:Int)]:=M.trans (if_pos H);have O:g.2.length=a.2.length:=by rw [I.1.2,e];exact H.2
 exact (if_pos ⟨I.1,J.1.1⟩).trans (if_pos (by rw [O];exact J.1.2.symm))
/-- Op 8: a side of one spreads over the whole. -/
theorem e_f:∀ (d:List Nat) (s:Nat),s < d.length->a_e (d.set s 1)=a_e (b_j d s)
 | b :: bs,0,_=>by simp [b_j,a_e]
 | b :: bs,s+1,h=>by
  have D:=e_f bs s (by simpa using h);show b*a_e (bs.set s 1)=b*a_e (b_j bs s);rw [D]
 | [],s,h=>by simp at h
theorem m_B {d:List Nat} (D:goodN d) (s:Nat) (h:s < d.length):goodN (d.set s 1):=by
 refine ⟨by rw [List.length_set];exact D.1,fun x H=>?_,?_⟩
 ·rcases List.mem_or_eq_of_mem_set H with h|h
  ·exact D.2.1 x h
  ·omega
 ·rw [e_f d s h];exact (d_a D s h).2.2
theorem j_4 (d:List Nat) (s i:Nat) (h:s < d.length) (H:1<=i):a_U (d.set s 1) i=if i=d.length - s then 1 else a_U d i:=by
 unfold a_U;rw [List.length_set];by_cases D:i<=d.length
 ·rw [if_pos D,if_pos D,List.getD_eq_getElem?_getD,List.getD_eq_getElem?_getD,List.getElem?_set];by_cases e:i=d.length - s
  ·rw [if_pos e,if_pos (by omega),if_pos (by omega)];rfl
  ·rw [if_neg e,if_neg (by omega)]
 ·rw [if_neg D,if_neg D]
  split <;> rfl
theorem m_C {d:List Nat} (H:goodN d) (s:Nat) (h:s < d.length):b_W (d.set s 1) d/\joinN (d.set s 1) d=d:=by
 constructor
 ·intro i D _;rw [j_4 d s i h D]
  split
  ·exact .inr (.inl rfl)
  ·exact .inl rfl
 ·refine e_P (by rw [a_5,List.length_set,Nat.max_self]) fun i D _=>?_;rw [b_q _ _ _ D,j_4 d s i h D];have:=c_x H.2.1 i
  split <;> omega
theorem o_p (d:List Nat) (a:Nat) (h:∀ x,x∈d->1<=x) (D:a < a_e d):frN d d a=a:=by
 rw [<- l_d d d a rfl,e_9 (c_j d a h D),d_n d a h D]
theorem m_D (q T Q r:Nat) (D:0 < Q):(q*(T*Q)+r) / Q=q*T+r / Q:=by
 rw [<- Nat.mul_assoc,Nat.add_comm,Nat.add_mul_div_right _ _ D,Nat.add_comm]
theorem m_E:∀ (d:List Nat) (s i:Nat),(∀ x,x∈d->1<=x)->s < d.length->i < a_e d->frN (d.set s 1) d i=i / (d.getD s 0*a_e (d.drop (s+1)))*a_e (d.drop (s+1))+i % a_e (d.drop (s+1))
 | [],s,i,_,h,_=>by simp at h
 | b :: bs,0,i,hp,_,hi=>by
  have O:1<=a_e bs:=a_C fun y J=>hp y (List.mem_cons_of_mem _ J);have D:i < b*a_e bs:=hi;show (if 1=1 then 0 else i / a_e bs)*a_e bs+frN bs bs (i % a_e bs)=i / (b*a_e bs)*a_e bs+i % a_e bs;rw [if_pos rfl,o_p bs _ (fun y J=>hp y (List.mem_cons_of_mem _ J)) (Nat.mod_lt _ O),Nat.div_eq_of_lt D]
 | b :: bs,s+1,i,hp,hs,hi=>by
  have I:∀ y,y∈bs->1<=y:=fun y J=>hp y (List.mem_cons_of_mem _ J);have O:1<=a_e bs:=a_C I;have H:s < bs.length:=by simpa using hs
  have ih:=m_E bs s (i % a_e bs) I H (Nat.mod_lt _ O);have D:i < b*a_e bs:=hi
  have hq:(if b=1 then 0 else i / a_e bs)=i / a_e bs:=by
   by_cases hb:b=1
   ·rw [if_pos hb];subst hb;rw [Nat.one_mul] at D;exact (Nat.div_eq_of_lt D).symm
   ·rw [if_neg hb]
  show (if b=1 then 0 else i / a_e bs)*a_e (bs.set s 1)+frN (bs.set s 1) bs (i % a_e bs)=i / (bs.getD s 0*a_e (bs.drop (s+1)))*a_e (bs.drop (s+1))+i % a_e (bs.drop (s+1));rw [hq,ih,e_f bs s H];have R:a_e (b_j bs s)=a_e (bs.take s)*a_e (bs.drop (s+1)):=by rw [b_j,a_E]
  have L:a_e bs=a_e (bs.take s)*(bs.getD s 0*a_e (bs.drop (s+1))):=by
   rw [<- d_w bs s H,R,Nat.mul_assoc,Nat.mul_comm (a_e (bs.drop (s+1)))]
  rw [R];generalize a_e (bs.take s)=T at *;generalize a_e (bs.drop (s+1))=P at *;generalize bs.getD s 0=c at *;generalize a_e bs=M at *
  have hQ:0 < c*P:=by
   rcases Nat.eq_zero_or_pos (c*P) with h|h
   ·rw [h,Nat.mul_zero] at L;omega
   ·exact h
  have U:i % M % P=i % P:=Nat.mod_mod_of_dvd i ⟨T*c,by rw [L,<- Nat.mul_assoc,Nat.mul_comm]⟩
  have V:i / (c*P)=i / M*T+i % M / (c*P):=by
   have:=m_D (i / M) T (c*P) (i % M) hQ;rw [<- L,Nat.mul_comm (i / M) M,Nat.div_add_mod] at this;exact this
  rw [U,V,Nat.add_mul,Nat.mul_assoc,Nat.add_assoc]
/-- What a gradient of a sum along a side is spread by. -/
theorem o_q {a g:Ten} {k:Int} (ha:b_b a) (hE:smE a.1 a.2 k=0) (R:b_b g) (eg:g.1=smD a.1 a.2 k):
  ∃ s:Nat,k=(s:Int)/\s < a.1.length/\(j_A g.1 g.2 (a.1.set s 1)=0/\j_B g.1 g.2 (a.1.set s 1)=a.1.set s 1/\k_4 g.1 g.2 (a.1.set s 1)=g.2)/\c_r (a.1.set s 1) g.2
   /\ b_u (a.1.set s 1) g.2 a.1 (List.replicate (a_e (ntl a.1)) 0)=0/\b_x (a.1.set s 1) g.2 a.1 (List.replicate (a_e (ntl a.1)) 0)=a.1/\b_G (fun a b=>Fx.hold (a+b)) (a.1.set s 1) g.2 a.1 (List.replicate (a_e (ntl a.1)) 0)=q_x (ntl a.1) k.toNat g.2:=by
 have hp:smP a.1 a.2 k:=by
  unfold smE at hE;by_cases h:smP a.1 a.2 k
  ·exact h
  ·rw [if_neg h] at hE;cases hE
 have O:=eg.trans (if_pos hp);obtain ⟨aD,aX⟩:=a;obtain ⟨gD,D⟩:=g;obtain ⟨A,H,rfl⟩:=b_k ha.1.1;have h1:0<=k:=hp.2.1;have h2:k < ((itl A).length:Int):=hp.2.2;obtain ⟨s,rfl⟩:∃ s:Nat,k=(s:Int):=⟨k.toNat,by omega⟩
 rw [a_v] at h2;have L:s < A.length:=by omega
 have aa:gD=itl (b_j A s):=by rw [a_o] at O;exact O
 subst aa
 have J:D.length=a_e (A.set s 1):=by
  have:=R.1.2;rw [a_o] at this;rw [this,e_f A s L]
 have M:(itl A).set s 1=itl (A.set s 1):=by
  unfold itl;rw [List.map_set];rfl
 have gT:=m_B H s L;have U:isP (itl (A.set s 1)) D:=f_E gT J;have V:(isP (itl (b_j A s)) D/\goodN (ntl (itl (A.set s 1))))/\a_e (ntl (itl (A.set s 1)))=D.length:=⟨⟨R.1,by rw [a_o];exact gT⟩,by rw [a_o,J]⟩
 obtain ⟨hf,hj⟩:=m_C H s L;obtain ⟨p1,p2⟩:=b_o gT H hf (by rw [hj];exact H);rw [hj] at p1
 have pz:isP (itl A) (List.replicate (a_e (ntl (itl A))) 0):=by
  rw [a_o];exact f_E H (by simp)
 refine ⟨s,rfl,by rw [a_v];exact L,?_⟩;show (j_A _ _ ((itl A).set s 1)=0/\j_B _ _ ((itl A).set s 1)=(itl A).set s 1/\k_4 _ _ ((itl A).set s 1)=D)/\c_r ((itl A).set s 1) D/\b_u ((itl A).set s 1) D (itl A) (List.replicate (a_e (ntl (itl A))) 0)=0/\b_x ((itl A).set s 1) D (itl A) (List.replicate (a_e (ntl (itl A))) 0)=itl A/\b_G _ ((itl A).set s 1) D (itl A) (List.replicate (a_e (ntl (itl A))) 0)=q_x (ntl (itl A)) ((s:Int).toNat) D;rw [M];refine ⟨⟨(if_pos V.1).trans (if_pos V.2),if_pos V,if_pos V⟩,f_S U R.2.2,(if_pos ⟨U,pz⟩).trans p2,(if_pos ⟨U,pz⟩).trans p1,(if_pos ⟨⟨U,pz⟩,p2⟩).trans ?_⟩;rw [p1];simp only [a_o];unfold q_x;refine List.map_congr_left fun i hi=>?_;have I:=List.mem_range.1 hi
 have hz:(List.replicate (a_e A) (0:Int)).getD (b_S A A i) 0=0:=by
  rw [h_y H i I,List.getD_eq_getElem?_getD,List.getElem?_replicate,if_pos I];rfl
 rw [hz,Int.add_zero,Fx.hold_in (d_d R.2.2 _).1 (d_d R.2.2 _).2];have hl:(A.set s 1).length=A.length:=List.length_set;rw [j_f _ _ _ (by rw [hl];exact Nat.le_refl _),l_a,hl,Nat.sub_self,List.replicate_zero,List.nil_append,m_E A s i H.2.1 L I];rfl
/-- Op 10: a number and noughts. -/
theorem m_F (v:Int) (n:Nat) (h:1<=n):b_v ((List.replicate n 0).set 0 v)=v:=by
 unfold b_v;rw [List.length_set,List.length_replicate]
 have D:∀ m,m+1<=n->b_i (fun k=>((List.replicate n 0).set 0 v).getD k 0) (m+1)=v:=by
  intro m
  induction m with
  | zero=>
   intro _;rw [b_i,b_i];obtain ⟨q,rfl⟩:∃ q,n=q+1:=⟨n - 1,by omega⟩
   simp [List.replicate_succ]
  | succ m ih=>
   intro H;rw [b_i,ih (by omega),List.getD_eq_getElem?_getD,List.getElem?_set,if_neg (by omega),List.getElem?_replicate,if_pos (by omega)];simp
 obtain ⟨q,rfl⟩:∃ q,n=q+1:=⟨n - 1,by omega⟩
 exact D q (Nat.le_refl _)
theorem o_r (v:Int) (n:Nat) (h:1<=n):f_X ((List.replicate n 0).set 0 v)=Fx.hold (rqI v (n:Int)):=by
 unfold f_X;rw [m_F v n h,List.length_set,List.length_replicate]
/-- Op 13: places. -/
theorem q_C {a g:Ten} {k:Int} (O:b_b a) (H:plE a.1 a.2 k=0) (hg:b_b g) (eg:g.1=plD a.1 a.2 k):
  (plP a.1 a.2 k).length=g.2.length/\(∀ i,i < (plP a.1 a.2 k).length->0<=(plP a.1 a.2 k).getD i 0/\(plP a.1 a.2 k).getD i 0 < (a_e (ntl a.1):Int))/\RI (plP a.1 a.2 k):=by
 have M:isP a.1 a.2/\a.1.length=2/\plW a.1 k:=by
  unfold plE at H;rw [if_pos O.1] at H;by_cases h:a.1.length=2
  ·rw [if_pos h] at H;by_cases U:plW a.1 k
   ·exact ⟨O.1,h,U⟩
   ·rw [if_neg U] at H;cases H
  ·rw [if_neg h] at H;cases H
 have ab:=eg.trans (if_pos M);have eP:plP a.1 a.2 k=e_y (a.1.getD 0 0).toNat (a.1.getD 1 0).toNat ((a.1.getD 1 0).toNat / k.toNat) k.toNat a.2:=if_pos M;obtain ⟨aD,D⟩:=a;obtain ⟨gD,gX⟩:=g;obtain ⟨R,L,rfl,ac,k0,k1,k2⟩:=a_X O.1 M.2.1;have hw:=M.2.2;obtain ⟨wd,rfl⟩:∃ q:Nat,k=q:=⟨k.toNat,by have:=hw.1;omega⟩
 have h1:1<=wd:=by have:=hw.1;omega
 have U:wd<=L:=by have:=hw.2;simp at this;omega
 have aa:plP [(R:Int),(L:Int)] D wd=e_y R L (L / wd) wd D:=eP;have V:gD = [(R:Int),((L / wd:Nat):Int)]:=ab;subst V;have hn:L / wd*wd<=L:=Nat.div_mul_le_self L wd;have hl:(e_y R L (L / wd) wd D).length=R*(L / wd):=by simp [e_y]
 have I:a_e (ntl [(R:Int),(L:Int)])=R*L:=c_k R L;show (plP [(R:Int),(L:Int)] D wd).length=gX.length/\(∀ i,i < (plP [(R:Int),(L:Int)] D wd).length->0<=(plP [(R:Int),(L:Int)] D wd).getD i 0/\(plP [(R:Int),(L:Int)] D wd).getD i 0 < (a_e (ntl [(R:Int),(L:Int)]):Int))/\RI (plP [(R:Int),(L:Int)] D wd);rw [aa,I]
 have hb:∀ i,i < R*(L / wd)->0<=(e_y R L (L / wd) wd D).getD i 0/\(e_y R L (L / wd) wd D).getD i 0 < ((R*L:Nat):Int):=fun i J=>by
  rw [j_P _ _ _ _ _ _ J];have:=(i_w (l:=L) D J h1 hn).2;omega
 refine ⟨?_,fun i J=>hb i (by rw [<- hl];exact J),?_⟩
 ·rw [hl,hg.1.2];exact (c_k R (L / wd)).symm
 ·have ad:R*L<=4096:=by
   have h:=O.1.1.2.2;have e:a_e (ntl [(R:Int),(L:Int)])=R*L:=I;have h':a_e (ntl [(R:Int),(L:Int)])<=4096:=h;rw [e] at h';exact h'
  unfold e_y;refine c_z fun q hq=>?_;have:=(i_w (l:=L) D (List.mem_range.1 hq) h1 hn).2;unfold InR;omega
/-- What a node says of the two that it is of. -/
theorem OkP.of {ns:List Nd} (M:NodesG ns) (hV:NodesV ns) {i:Nat} {nd:Nd} (J:ns[i]?=some nd) (R:nd.op≠1) {g:Ten} (hg:b_b g) (O:g.1=nd.D):OkP nd.op nd.k (aOf ns nd) (bOf ns nd) g/\(2<=nd.op/\nd.op<=14)/\(0<=nd.a/\nd.a < (i:Int))/\(c_0 nd.op->0<=nd.b/\nd.b < (i:Int))/\(¬ c_0 nd.op->nd.b = -1):=by
 have hl:i < ns.length:=(List.getElem?_eq_some_iff.1 J).1;rcases hV i nd J with h|⟨ho,L,hb,I,V,U⟩
 ·exact absurd h.1 R
 refine ⟨⟨M.at L.1 (by omega),hg,fun H=>?_,V,O.trans U⟩,ho,L,hb,I⟩;have:=hb H;show c_r (dD ns nd.op nd.b) (dX ns nd.op nd.b);unfold dD dX;rw [if_pos H,if_pos H];exact M.at this.1 (by omega)
theorem e_g (p p2 p3:Option Addr) (n c O c2 n3 c3:Nat) (d x d':List Int) (hd:RI d) (hx:RI x) (ag:RI d') (M:c_1 d x d'=0) (w:World) (h1:Nums .i64 w (.slice p n c) d) (h2:Nums .i64 w (.slice p2 O c2) x) (h3:Nums .i64 w (.slice p3 n3 c3) d'):
  Calls Tryz.prog 103 #[.agg #[.slice p n c,.slice p2 O c2],.slice p3 n3 c3] w fun e w'=>∃ v',e = .returned (.tuple #[v',.int .i64 (c_1 d x d')])/\TRes w' w.heap.size v' (h_0 d x d') (h_1 d x d')/\Below w.heap.size w w':=by
 have cA:=fun W (hW:Below w.heap.size w W)=>a_D _ _ d x hd W (h1.up hW) (h2.up hW);have cB:=fun W (hW:Below w.heap.size w W)=>b_X _ d' ag W (h3.up hW);have cZ:=fun W (hW:Below w.heap.size w W)=>size_any _ d' ag W (h3.up hW);have cJ:=fun W (hW:Below w.heap.size w W)=>g_A _ _ d' d ag hd W (h3.up hW) (h1.up hW);have cS:∀ W v',Below w.heap.size w W->Nums .i64 W v' (b_T d' d)->Calls Tryz.prog 132 #[v',.slice p n c] W fun e w'=>e = .returned (.bool (decide (b_T d' d=d)))/\∃ m,w'=W.drewN m:=fun W v' hW hv=>n_w _ _ _ d (by have:=l_k d' d;omega) W hv (h1.up hW);have HN:Hid (Nums .i64 w (.slice p n c) d/\Nums .i64 w (.slice p2 O c2) x/\Nums .i64 w (.slice p3 n3 c3) d'):=⟨h1,h2,h3⟩
 obtain ⟨_,_,_,e4,HX⟩:=h2.lst;cases e4;by_cases hp:isP d x
 ·rw [decide_eq_true hp] at cA;by_cases L:goodN (ntl d')
  ·rw [decide_eq_true L] at cB;rw [b_0 L] at cZ;by_cases hf:b_w d' d=0/\b_T d' d=d
   ·obtain ⟨a,b,hU⟩:=q_t ⟨⟨hp,L⟩,hf⟩;obtain ⟨e1,e2,e3⟩:=hU.V ⟨⟨hp,L⟩,hf⟩;clear M;rw [e1,e2,e3];rw [decide_eq_true hf.2] at cS;rw [hf.1] at cJ;rw [hf.2] at cJ cS;rw [hU.db,a_o] at cZ;obtain ⟨S,eS⟩:∃ S,a_e b=S:=⟨_,rfl⟩
    obtain ⟨N,eN⟩:∃ N,a_e a=N:=⟨_,rfl⟩
    obtain ⟨D,eD⟩:∃ D,itl b=D:=⟨_,rfl⟩
    obtain ⟨V,eV⟩:∃ V,c_6 (fun a b=>Fx.hold (a+b)) (b_S b a) (fun i=>x.getD i 0) S N=V:=⟨_,rfl⟩
    have aL:O=N:=by rw [<- HX.out.1,hU.lx,eN]
    subst aL;have H:Hid (Under d x d' a b/\a_e b=S/\a_e a=O/\itl b=D/\RI x/\c_6 (fun a b=>Fx.hold (a+b)) (b_S b a) (fun i=>x.getD i 0) S O=V):=⟨hU,eS,eN,eD,hx,eV⟩
    have hS:1<=S/\S<=4096:=by rw [<- eS];exact ⟨hU.gb.pos,hU.gb.2.2⟩
    have aS:1<=(S:Int)/\(S:Int)<=4096:=by omega
    have hN:1<=O/\O<=4096:=by rw [<- eN];exact ⟨hU.ga.pos,hU.ga.2.2⟩
    have aR:1<=(O:Int)/\(O:Int)<=4096:=by omega
    rw [eS] at cZ ⊢;rw [eN,eD,eV];clear e1 e2 e3 hp L hf h1 h2 h3 hd hx ag eS eN eD eV hU;go_enter Tryz.func103,Tryz.ntmps103;go_wp2_with fail
    generalize ac:World.alloc _ _=W0;have an:=b_C (w:=w) ac (by go_grown);have XA:Hid (Cel W0 w.heap.size (.slice p n c) (.slice p2 O c2)):=a_y ac (by simp [go_sem]);have XR:Hid (Cel W0 (w.heap.size+1) (.slice none 0 0) (.slice none 0 0)):=a_y ac (by simp [go_sem]);clear ac;refine (cA W0 an.out).mono ?_;rintro e w1 ⟨rfl,ap⟩;have ab:=a_M (a_c an.out ap) ap;clear ap;go_wp2_with fail
    refine (cB w1 ab.out.1).mono ?_;rintro e w2 ⟨rfl,rfl⟩;clear cA cB;obtain ⟨a0,a1,_,_⟩:=XA.out.up ab.out.2;go_wp2_with fail
    refine (cJ w2 ab.out.1).mono ?_;rintro e w3 ⟨vj,rfl,aB,aw⟩;have ad:=a_M (a_c ab.out.1 aw) (a_c ab.out.2 aw);have cs:=cS w3 vj ad.out.1 aB.nums;clear aw aB a0 a1 cS cJ;obtain ⟨a0,a1,_,_⟩:=XA.out.up ad.out.2;go_wp2_with fail
    refine cs.mono ?_;rintro e w4 ⟨rfl,m,az⟩;have I:Hid (Below w.heap.size w w4/\Below W0.heap.size W0 w4):=by rw [az];exact ⟨a_l ad.out.1 m,a_l ad.out.2 m⟩
    clear cs a0 a1 az;go_wp2_with fail
    refine (cZ w4 I.out.1).mono ?_;rintro e w5 ⟨rfl,rfl⟩;clear cZ;obtain ⟨a0,a1,_,_⟩:=XA.out.up I.out.2;go_wp2_with (at_make;refine a_z k_u (by decide) _ rfl (.tmp 38) (.tmp 38) rfl .i64 .i64 S S S rfl rfl rfl rfl (by omega) w.heap.size w I.out.1.size I.out.1 ?_;intro w6 aj B6 aM;clear aM;have aO:=(XA.out.up (a_c I.out.2 B6));obtain ⟨a2,a3,_,_⟩:=aO)
    obtain ⟨g,L⟩:∃ g,w5.heap.size=g:=⟨_,rfl⟩
    have ae:=a_M (a_c I.out.1 B6) (a_c I.out.2 B6);rw [L] at aj ⊢;have hz:=a_a XR.out.1;have Hg:Hid (W0.heap.size<=g/\w.heap.size+1 < W0.heap.size/\g < w6.heap.size):=⟨by rw [<- L];exact I.out.2.size,hz,aj.out.size⟩
    have aF:=e_s _ _ b a H.out.1.gb H.out.1.ga (g_z H.out.1.jb) w6 (by rw [<- H.out.1.db];exact HN.out.2.2.up ae.out.1) (by rw [<- H.out.1.da];exact HN.out.1.up ae.out.1);refine aF.mono ?_;rintro e w7 ⟨vs,rfl,h7,ah⟩;obtain ⟨ps,ns,cs,rfl,ax⟩:=h7.nums.lst;obtain rfl:ns=O:=by rw [<- ax.out.1,a_v,d_K,H.out.2.2.1]
    have aE:Hid (OwnK .i64 3 w7 w6.heap.size (.slice ps ns cs) (itl (b_U b a))):=h7;have au:=a_M (a_c ae.out.1 ah) (a_c ae.out.2 ah);have aK:Hid (OwnK .i64 23 w7 g (.slice (some ⟨g,0,none⟩) S S) (c_6 (fun a b=>Fx.hold (a+b)) (b_S b a) (fun i=>x.getD i 0) S 0)):=aj.out.up ah;have aH:Hid (Cel w7 w.heap.size (.slice p n c) (.slice p2 ns c2)/\Cel w7 (w.heap.size+1) (.slice none 0 0) (.slice none 0 0)):=⟨XA.out.up au.out.2,XR.out.up au.out.2⟩
    clear aF h7 ah ax a0 a1 a2 a3 aj B6 L hz;go_wp2_with fail
    go_loopg [45] ns (fun gg i wr=>∃ (k:Nat),k<=ns/\gg=ns - k/\i = .int .i64 (k:Int)/\Hid (OwnK .i64 23 wr g (.slice (some ⟨g,0,none⟩) S S) (c_6 (fun a b=>Fx.hold (a+b)) (b_S b a) (fun i=>x.getD i 0) S k))/\Hid (Below w.heap.size w wr/\Stay g w7 wr))
    case atStart=>exact ⟨0,by omega,by omega,by first|rfl|simp,aK,au.out.1,Stay.refl _ _⟩
    case round=>
     obtain ⟨k,hk,L,rfl,U,J⟩:=hrel;obtain ⟨R1,aQ⟩:∃ R1:World,R1=wr:=⟨_,rfl⟩
     subst aQ;by_cases ai:k < ns
     ·have aU:(k:Int) < (ns:Int):=by omega
      obtain ⟨_,_,_,e4,aJ⟩:=(aE.out.nums.stay J.out.2 (aE.out.off Hg.out.2.2)).lst;cases e4;obtain ⟨qa,oa,rfl,aq⟩:=aJ.out.2 k ai;have ar:k < a_e a:=by rw [H.out.2.2.1];exact ai
      rw [a_O,f_m H.out.1.gb H.out.1.ga H.out.1.fb H.out.1.jb k ar] at aq;have ia:=g_y H.out.1.gb.2.1 H.out.1.ga.2.1 H.out.1.fb H.out.1.jb k ar;obtain ⟨i,ei⟩:∃ i,b_S b a k=i:=⟨_,rfl⟩
      rw [ei] at aq ia;rw [H.out.2.1] at ia;have aT:(i:Int) < (S:Int):=by omega
      obtain ⟨qx,ox,rfl,aC⟩:=HX.out.2 k ai;have aG:=a_d aC J.out.1;have rx:=H.out.2.2.2.2.1.in k (by rw [HX.out.1];exact ai);obtain ⟨X,eX⟩:∃ X,x.getD k 0=X:=⟨_,rfl⟩
      rw [eX] at aG rx;obtain ⟨FK,aa⟩:∃ FK,c_6 (fun a b=>Fx.hold (a+b)) (b_S b a) (fun i=>x.getD i 0) S k=FK:=⟨_,rfl⟩
      have aI:FK.length=S:=by rw [<- aa,f_j]
      have ry:Fx.InR (FK.getD i 0):=by
       have aA:FK.getD i 0∈FK:=by
        rw [a_r FK i 0 (by omega)];exact List.getElem_mem _
       exact j_0 k _ (by rw [aa];exact aA)
      obtain ⟨Y,eY⟩:∃ Y,FK.getD i 0=Y:=⟨_,rfl⟩
      rw [aa] at U;obtain ⟨R,ay⟩:=U.out.cell aI i ia;rw [eY] at R ry;obtain ⟨Z,eZ⟩:∃ Z,Fx.hold (Y+X)=Z:=⟨_,rfl⟩
      have HZ:Hid (c_6 (fun a b=>Fx.hold (a+b)) (b_S b a) (fun i=>x.getD i 0) S (k+1)=FK.set i Z/\FK.length=S):=⟨by rw [c_6,aa,ei,eY,eX,eZ],aI⟩
      have cz:∀ W,Calls Tryz.prog 118 #[.int .i64 Y,.int .i64 X] W fun e w'=>e = .returned (.int .i64 Z)/\w'=W:=fun W=>by rw [<- eZ];exact Fx.add_any Y X ry rx W
      have ak:w.heap.size≠g:=by have:=Hg.out;omega
      obtain ⟨a0,a1,_,_⟩:=aH.out.1.stay J.out.2 ak;have z0:=a_a a0;have z2:=a_a aq;have z4:=a_a aG;have z6:=U.out.size;clear eX eY eZ ei aa aJ ak ar aC rx ry;go_wp2_with fail
      refine j_r 13 68 (by kernel_rfl) rfl rfl (by kernel_rfl) ?_;apply Exists.intro;refine ⟨?_,?_⟩
      ·intro F hF;have hFc:=hF.cell;have hFf:=hF.frozen;simp only [List.take_succ_cons,List.take_zero,List.eraseIdx_cons_succ,List.eraseIdx_cons_zero]
       repeat (go_big_quiet_step (exact hF.same (cz _)))
       refine wpQuiet_nil ?_;exact rfl
      ·intro W1 af;simp only [List.drop_succ_cons,List.drop_zero];have ao:=U.out.up af;clear R ay;obtain ⟨R,ay⟩:=ao.cell HZ.out.2 i ia
       have H5:Hid (OwnK .i64 23 (W1.setCell ⟨g,i,none⟩ (.int .i64 Z)) g (.slice (some ⟨g,0,none⟩) S S) (c_6 (fun a b=>Fx.hold (a+b)) (b_S b a) (fun i=>x.getD i 0) S (k+1))):=by
        have:=ao.store HZ.out.2 i Z;rw [HZ.out.1];exact this
       have aN:w.heap.size<=g:=by have:=Hg.out;omega
       have H6:Hid (Below w.heap.size w (W1.setCell ⟨g,i,none⟩ (.int .i64 Z))/\Stay g w7 (W1.setCell ⟨g,i,none⟩ (.int .i64 Z))):=⟨(a_c J.out.1 af).setCell (p:=⟨g,i,none⟩) aN _,(J.out.2.up af).set _ _⟩
       clear ao af cz z0 z2 z4 z6 a0 a1;go_wp2;go_roundg (ns - (k+1))
       case measure=>omega
       case rel=>exact ⟨k+1,by omega,rfl,by first|rfl|simp,H5,H6⟩
     ·obtain rfl:k=ns:=by omega
      have am:w.heap.size+1≠g:=by have:=Hg.out;omega
      have aP:Hid (Cel R1 (w.heap.size+1) (.slice none 0 0) (.slice none 0 0)):=aH.out.2.stay J.out.2 am
      have aD:Hid (OwnK .i64 23 R1 g (.slice (some ⟨g,0,none⟩) S S) V):=by
       have:=U.out;rw [H.out.2.2.2.2.2] at this;exact this
      have cc:=b_h _ d' (by rw [H.out.1.db,a_v];have:=H.out.1.gb.1;omega) R1 (HN.out.2.2.up J.out.1);rw [H.out.1.db,H.out.2.2.2.1] at cc;clear am;go_wp2_with fail
      refine cc.mono ?_;rintro e w8 ⟨v8,rfl,h8,av⟩;obtain ⟨p8,n8,c8,rfl,_⟩:=h8.nums.lst
      have HF:Hid (TRes (set2 w8 (w.heap.size+1) (.slice p8 n8 c8) (.slice (some ⟨g,0,none⟩) S S)) w.heap.size (.agg #[.slice p8 n8 c8,.slice (some ⟨g,0,none⟩) S S]) D V/\Below w.heap.size w (set2 w8 (w.heap.size+1) (.slice p8 n8 c8) (.slice (some ⟨g,0,none⟩) S S))):=by
       have hs:g<=R1.heap.size:=Nat.le_of_lt aD.out.size;exact ⟨(TRes.set (h8.low (Nat.le_trans Hg.out.1 hs)) ((aD.out.up av).low Hg.out.1) Hg.out.2.1).low an.out.size,a_j (a_c J.out.1 av) _ (by omega) _ _⟩
      clear cc h8;have xr:=(aP.out.up av)
      have cf:=xr.set (.slice p8 n8 c8) (.slice (some ⟨g,0,none⟩) S S);obtain ⟨r0,r1,r2,r3⟩:=xr;obtain ⟨y0,y1,_,_⟩:=cf;go_wp2;exact bodyPost_ret (v:=.tuple #[.agg #[.slice p8 n8 c8,.slice (some ⟨g,0,none⟩) S S],.int .i64 0]) (by simp [results,Tryz.results103,go_sem,y0,y1]) rfl ⟨_,rfl,HF.out⟩
   ·have e1:c_1 d x d'=4:=by unfold c_1;rw [if_pos ⟨hp,L⟩,if_neg hf]
    have e2:h_0 d x d' = []:=if_neg fun h=>hf h.2;have e3:h_1 d x d' = []:=if_neg fun h=>hf h.2;rw [e1] at M;cases M
  ·rw [decide_eq_false L] at cB;have e1:c_1 d x d'=1:=if_neg fun h=>L h.2;have e2:h_0 d x d' = []:=if_neg fun h=>L h.1.2;have e3:h_1 d x d' = []:=if_neg fun h=>L h.1.2;rw [e1] at M;cases M
 ·rw [decide_eq_false hp] at cA;have e1:c_1 d x d'=1:=if_neg fun h=>hp h.1;have e2:h_0 d x d' = []:=if_neg fun h=>hp h.1.1;have e3:h_1 d x d' = []:=if_neg fun h=>hp h.1.1;rw [e1] at M;cases M
theorem f_M (p1 q1:Option Addr) (n1 c1 m1 e1:Nat) (p2 q2:Option Addr) (n2 c2 m2 e2:Nat) (p3:Option Addr) (n3 c3:Nat) (g o:Ten) (d:List Int) (hg:b_b g) (ho:b_b o) (hd:RI d) (hE:b_u g.1 g.2 o.1 o.2=0) (hm:b_b (i_f g o)) (hF:c_1 (i_f g o).1 (i_f g o).2 d=0) (w:World) (ad:Nums .i64 w (.slice p1 n1 c1) g.1) (ae:Nums .i64 w (.slice q1 m1 e1) g.2) (ao:m1<=e1) (ah:Nums .i64 w (.slice p2 n2 c2) o.1) (af:Nums .i64 w (.slice q2 m2 e2) o.2) (an:m2<=e2) (h3:Nums .i64 w (.slice p3 n3 c3) d):
  Calls Tryz.prog 104 #[(.agg #[.slice p1 n1 c1,.slice q1 m1 e1]),(.agg #[.slice p2 n2 c2,.slice q2 m2 e2]),.slice p3 n3 c3] w fun e O=>∃ L,e = .returned (.tuple #[L,.int .i64 0])/\TRes O w.heap.size L (c_i (i_f g o) d).1 (c_i (i_f g o) d).2/\Below w.heap.size w O:=by
 obtain ⟨M,eM⟩:∃ M,i_f g o=M:=⟨_,rfl⟩
 have cF:Hid (∀ W,Below w.heap.size w W->Calls Tryz.prog 120 #[(.agg #[.slice p1 n1 c1,.slice q1 m1 e1]),(.agg #[.slice p2 n2 c2,.slice q2 m2 e2])] W fun e O=>∃ L,e = .returned (.tuple #[L,.int .i64 0])/\TRes O W.heap.size L M.1 M.2/\Below W.heap.size W O):=fun W hW=>by
  have:=j_z p1 q1 p2 q2 n1 c1 m1 e1 n2 c2 m2 e2 g.1 g.2 o.1 o.2 hg.2.1 hg.2.2 ho.2.1 ho.2.2 W (ad.up hW) (ae.up hW) (ah.up hW) (af.up hW);rw [hE] at this;rw [<- eM];exact this
 rw [eM] at hm hF ⊢
 have cS:Hid (∀ (W:World) (p q:Option Addr) (n c m e:Nat),Below w.heap.size w W->Nums .i64 W (.slice p n c) M.1->Nums .i64 W (.slice q m e) M.2->m<=e->Calls Tryz.prog 103 #[.agg #[.slice p n c,.slice q m e],.slice p3 n3 c3] W fun e O=>∃ L,e = .returned (.tuple #[L,.int .i64 0])/\TRes O W.heap.size L (c_i M d).1 (c_i M d).2/\Below W.heap.size W O):=fun W p q n c m e hW a1 a2 a3=>by
  have:=e_g p q p3 n c m e n3 c3 M.1 M.2 d hm.2.1 hm.2.2 hd hF W a1 a2 (h3.up hW);rw [hF] at this;exact this
 clear eM hm hF hE ad ae ao ah af an h3 hg ho hd;obtain ⟨R,eR⟩:∃ R,c_i M d=R:=⟨_,rfl⟩
 rw [eR] at cS ⊢;clear eR;go_enter Tryz.func104,Tryz.ntmps104;go_wp2_with fail
 generalize ac:World.alloc _ _=W0;obtain ⟨V,XA,XB,XR⟩:=m_p ac;clear ac;refine (cF.out W0 V.out).mono ?_;rintro e w1 ⟨v1,rfl,⟨s1,t1,rfl,U,J⟩,ab⟩;obtain ⟨pa,na,ca,rfl⟩:=U.form_;obtain ⟨pb,nb,cb,rfl⟩:=J.form_;have aa:=a_M (a_c V.out ab) ab;have H:Hid (Nums .i64 w1 (.slice pa na ca) M.1/\Nums .i64 w1 (.slice pb nb cb) M.2/\nb<=cb):=⟨U.nums,J.nums,J.cap⟩
 clear U J ab cF;go_wp2_with fail
 generalize ag:World.alloc _ _=W2;have B2:Below w1.heap.size w1 W2:=by rw [<- ag];exact a_b w1 _
 have D:=a_M (a_c aa.out.1 B2) (a_c aa.out.2 B2);have I:Hid (Nums .i64 W2 (.slice pa na ca) M.1/\Nums .i64 W2 (.slice pb nb cb) M.2/\nb<=cb):=⟨H.out.1.up B2,H.out.2.1.up B2,H.out.2.2⟩
 clear ag B2 H aa;refine (cS.out W2 pa pb na ca nb cb D.out.1 I.out.1 I.out.2.1 I.out.2.2).mono ?_;rintro e w3 ⟨v3,rfl,⟨s3,t3,rfl,U,J⟩,ai⟩;obtain ⟨aq,ap,aj,rfl⟩:=U.form_;obtain ⟨ak,ar,am,rfl⟩:=J.form_;clear cS I;obtain ⟨HF,r0,r1,r2,r3,z0,z1⟩:=d_5 XR V (a_c D.out.2 ai) (U.low D.out.2.size) (J.low D.out.2.size) (by omega);clear U J ai D;go_wp2;exact bodyPost_ret (v:=.tuple #[.agg #[.slice aq ap aj,.slice ak ar am],.int .i64 0]) (by simp [results,Tryz.results104,go_sem,z0,z1]) rfl ⟨_,rfl,HF.out⟩
theorem k_M (p1 q1:Option Addr) (n1 c1 m1 e1:Nat) (p3:Option Addr) (n3 c3:Nat) (g:Ten) (d:List Int) (hg:b_b g) (hd:RI d) (hE:e_H g.1 g.2=0) (hF:c_1 (d_g g (-4294967296)).1 (d_g g (-4294967296)).2 d=0) (w:World) (ad:Nums .i64 w (.slice p1 n1 c1) g.1) (ae:Nums .i64 w (.slice q1 m1 e1) g.2) (ak:m1<=e1) (h3:Nums .i64 w (.slice p3 n3 c3) d):
  Calls Tryz.prog 114 #[(.agg #[.slice p1 n1 c1,.slice q1 m1 e1]),.slice p3 n3 c3] w fun e U=>∃ O,e = .returned (.tuple #[O,.int .i64 0])/\TRes U w.heap.size O (c_i (d_g g (-4294967296)) d).1 (c_i (d_g g (-4294967296)) d).2/\Below w.heap.size w U:=by
 obtain ⟨M,eM⟩:∃ M,d_g g (-4294967296)=M:=⟨_,rfl⟩
 have cF:Hid (∀ W,Below w.heap.size w W->Calls Tryz.prog 105 #[(.agg #[.slice p1 n1 c1,.slice q1 m1 e1]),.int .i64 (-4294967296)] W fun e U=>∃ O,e = .returned (.tuple #[O,.int .i64 0])/\TRes U W.heap.size O M.1 M.2/\Below W.heap.size W U):=fun W hW=>by
  have:=k_v p1 q1 n1 c1 m1 e1 g.1 g.2 hg.2.1 hg.2.2 (-4294967296) (by unfold InR;omega) W (ad.up hW) (ae.up hW);rw [hE] at this;rw [<- eM];exact this
 have hm:b_b M:=by rw [<- eM];exact (e_X hg _).1
 rw [eM] at hF ⊢
 have cS:Hid (∀ (W:World) (p q:Option Addr) (n c m e:Nat),Below w.heap.size w W->Nums .i64 W (.slice p n c) M.1->Nums .i64 W (.slice q m e) M.2->m<=e->Calls Tryz.prog 103 #[.agg #[.slice p n c,.slice q m e],.slice p3 n3 c3] W fun e U=>∃ O,e = .returned (.tuple #[O,.int .i64 0])/\TRes U W.heap.size O (c_i M d).1 (c_i M d).2/\Below W.heap.size W U):=fun W p q n c m e hW a1 a2 a3=>by
  have:=e_g p q p3 n c m e n3 c3 M.1 M.2 d hm.2.1 hm.2.2 hd hF W a1 a2 (h3.up hW);rw [hF] at this;exact this
 clear eM hm hF hE ad ae ak h3 hg hd;obtain ⟨R,eR⟩:∃ R,c_i M d=R:=⟨_,rfl⟩
 rw [eR] at cS ⊢;clear eR;go_enter Tryz.func114,Tryz.ntmps114;go_wp2_with fail
 generalize H:World.alloc _ _=W0;have aa:=b_C (w:=w) H (by go_grown);have XA:Hid (Cel W0 w.heap.size (.slice p1 n1 c1) (.slice q1 m1 e1)):=a_y H (by simp [go_sem]);have XR:Hid (Cel W0 (w.heap.size+1) (.slice none 0 0) (.slice none 0 0)):=a_y H (by simp [go_sem]);clear H;refine (cF.out W0 aa.out).mono ?_;rintro e w1 ⟨v1,rfl,⟨s1,t1,rfl,V,L⟩,ac⟩;obtain ⟨pa,na,ca,rfl⟩:=V.form_;obtain ⟨pb,nb,cb,rfl⟩:=L.form_;have ab:=a_M (a_c aa.out ac) ac;have I:Hid (Nums .i64 w1 (.slice pa na ca) M.1/\Nums .i64 w1 (.slice pb nb cb) M.2/\nb<=cb):=⟨V.nums,L.nums,L.cap⟩
 clear V L ac cF;go_wp2_with fail
 generalize af:World.alloc _ _=W2;have B2:Below w1.heap.size w1 W2:=by rw [<- af];exact a_b w1 _
 have D:=a_M (a_c ab.out.1 B2) (a_c ab.out.2 B2);have J:Hid (Nums .i64 W2 (.slice pa na ca) M.1/\Nums .i64 W2 (.slice pb nb cb) M.2/\nb<=cb):=⟨I.out.1.up B2,I.out.2.1.up B2,I.out.2.2⟩
 clear af B2 I ab;refine (cS.out W2 pa pb na ca nb cb D.out.1 J.out.1 J.out.2.1 J.out.2.2).mono ?_;rintro e w3 ⟨v3,rfl,⟨s3,t3,rfl,V,L⟩,ag⟩;obtain ⟨an,am,ah,rfl⟩:=V.form_;obtain ⟨ai,ao,aj,rfl⟩:=L.form_;clear cS J;obtain ⟨HF,r0,r1,r2,r3,z0,z1⟩:=d_5 XR aa (a_c D.out.2 ag) (V.low D.out.2.size) (L.low D.out.2.size) (by omega);clear V L ag D;go_wp2;exact bodyPost_ret (v:=.tuple #[.agg #[.slice an am ah,.slice ai ao aj],.int .i64 0]) (by simp [results,Tryz.results114,go_sem,z0,z1]) rfl ⟨_,rfl,HF.out⟩
theorem i_M (p1 q1:Option Addr) (n1 c1 m1 e1:Nat) (p2:Option Addr) (n2 c2:Nat) (g:Ten) (d V:List Int) (s:Nat) (hg:b_b g) (gd:goodN (ntl d)) (hs:s < d.length) (hS:j_A g.1 g.2 (d.set s 1)=0/\j_B g.1 g.2 (d.set s 1)=d.set s 1/\k_4 g.1 g.2 (d.set s 1)=g.2) (hq:c_r (d.set s 1) g.2) (hE:b_u (d.set s 1) g.2 d (List.replicate (a_e (ntl d)) 0)=0/\b_x (d.set s 1) g.2 d (List.replicate (a_e (ntl d)) 0)=d/\b_G (fun a b=>Fx.hold (a+b)) (d.set s 1) g.2 d (List.replicate (a_e (ntl d)) 0)=V) (w:World) (aw:Nums .i64 w (.slice p1 n1 c1) g.1) (ax:Nums .i64 w (.slice q1 m1 e1) g.2) (h2:Nums .i64 w (.slice p2 n2 c2) d):
  Calls Tryz.prog 108 #[.agg #[.slice p1 n1 c1,.slice q1 m1 e1],.slice p2 n2 c2,.int .i64 (s:Int)] w fun e H=>∃ D,e = .returned (.tuple #[D,.int .i64 0])/\TRes H w.heap.size D d V/\Below w.heap.size w H:=by
 have aK:d.length<=4:=by have:=gd.1;rw [a_Q] at this;omega
 obtain ⟨N,eN⟩:∃ N,d.length=N:=⟨_,rfl⟩
 obtain ⟨Z,eZ⟩:∃ Z,List.replicate (a_e (ntl d)) (0:Int)=Z:=⟨_,rfl⟩
 obtain ⟨T,eT⟩:∃ T,d.set s 1=T:=⟨_,rfl⟩
 have rd:RI d:=i_E gd;have hz:c_r d Z:=by rw [<- eZ];exact q_z gd (by unfold InR;omega)
 have cC:Hid (∀ W,Below w.heap.size w W->Calls Tryz.prog 75 #[.slice p2 n2 c2] W fun e H=>∃ D,e = .returned D/\OwnK .i64 3 H W.heap.size D d/\Below W.heap.size W H):=fun W hW=>b_h _ d (by omega) W (h2.up hW)
 have cF:Hid (∀ W g_ n_ O,Below w.heap.size w W->Nums .i64 W (.slice g_ n_ O) T->Calls Tryz.prog 113 #[.agg #[.slice p1 n1 c1,.slice q1 m1 e1],.slice g_ n_ O] W fun e H=>∃ D,e = .returned (.tuple #[D,.int .i64 0])/\TRes H W.heap.size D T g.2/\Below W.heap.size W H):=fun W g_ n_ O hW hn=>by
  have rt:=hq.2.1;rw [eT] at hS rt;have:=c_9 p1 q1 g_ n1 c1 m1 e1 n_ O g.1 g.2 T hg.2.1 rt W (aw.up hW) (ax.up hW) hn;rw [hS.1,hS.2.1,hS.2.2] at this;exact this
 have cN:Hid (∀ W,Below w.heap.size w W->Calls Tryz.prog 67 #[.slice p2 n2 c2,.int .i64 0] W fun e H=>∃ D,e = .returned (.tuple #[D,.int .i64 0])/\TRes H W.heap.size D d Z/\Below W.heap.size W H):=fun W hW=>by
  have:=c_P (.slice p2 n2 c2) d rd 0 W (h2.up hW);rw [show l_X d=0 from if_pos gd,show d_S d=d from if_pos gd,show l_Y d 0=Z from (if_pos gd).trans eZ] at this;exact this
 have cA:Hid (∀ W a_ b_ O d_ e_ f_ g_ h_ i_ j_ k_ l_,Nums .i64 W (.slice a_ b_ O) T->Nums .i64 W (.slice d_ e_ f_) g.2->Nums .i64 W (.slice g_ h_ i_) d->Nums .i64 W (.slice j_ k_ l_) Z->Calls Tryz.prog 90 #[.agg #[.slice a_ b_ O,.slice d_ e_ f_],.agg #[.slice g_ h_ i_,.slice j_ k_ l_]] W fun e H=>∃ D,e = .returned (.tuple #[D,.int .i64 0])/\TRes H W.heap.size D d V/\Below W.heap.size W H):=fun W a_ b_ O d_ e_ f_ g_ h_ i_ j_ k_ l_ u1 u2 u3 u4=>by
  rw [eT] at hE hq;rw [eZ] at hE;have:=g_P a_ d_ g_ j_ b_ O e_ f_ h_ i_ k_ l_ T g.2 d Z hq.2.1 hq.2.2 hz.2.1 hz.2.2 W u1 u2 u3 u4;rw [hE.1,hE.2.1,hE.2.2] at this;exact this
 have HT:Hid (d.set s 1=T):=eT;rw [eN] at hs;have HL:Hid (d.length=N):=eN;have aL:(s:Int) < (N:Int):=by omega
 clear eN eZ eT rd hz hS hq hE aw ax h2 hg gd aK;go_enter Tryz.func108,Tryz.ntmps108;go_wp2_with fail
 generalize R:World.alloc _ _=W0;have ac:=b_C (w:=w) R (by go_grown);have XA:Hid (Cel W0 w.heap.size (.slice p1 n1 c1) (.slice q1 m1 e1)):=a_y R (by simp [go_sem]);have XR:Hid (Cel W0 (w.heap.size+1) (.slice none 0 0) (.slice none 0 0)):=a_y R (by simp [go_sem]);clear R;refine (cC.out W0 ac.out).mono ?_;rintro e w1 ⟨v1,rfl,hO,ar⟩;obtain ⟨gq,cq,rfl,aB⟩:=hO.at (by rw [HL.out];omega)
 rw [HL.out] at hO ⊢;obtain ⟨av,aG⟩:=hO.cell HL.out s hs;have au:OwnK .i64 3 (w1.setCell ⟨gq,s,none⟩ (.int .i64 1)) W0.heap.size (.slice (some ⟨gq,0,none⟩) N cq) T:=by rw [<- HT.out];exact hO.store HL.out s 1
 have J:Hid (OwnK .i64 3 (w1.setCell ⟨gq,s,none⟩ (.int .i64 1)) W0.heap.size (.slice (some ⟨gq,0,none⟩) N cq) T/\Below W0.heap.size W0 (w1.setCell ⟨gq,s,none⟩ (.int .i64 1))):=⟨au,ar.setCell (p:=⟨gq,s,none⟩) aB _⟩
 have kg:=a_a av;obtain ⟨ad,ay,_,_⟩:=XA.out.up J.out.2;have kx:=a_a ad;clear au hO ar cC;go_wp2_with fail
 generalize aq:World.setCell _ _ _=W2;rw [aq] at J ad ay kx;have aa:=a_M (a_c ac.out J.out.2) J.out.2;refine (cF.out W2 _ _ _ aa.out.1 J.out.1.nums).mono ?_;rintro e w3 ⟨v3,rfl,⟨s3,t3,rfl,ag,am⟩,an⟩;obtain ⟨p3,n3,c3,rfl⟩:=ag.form_;obtain ⟨q3,m3,e3,rfl⟩:=am.form_;have af:=a_M (a_c aa.out.1 an) (a_c aa.out.2 an);have ae:Hid (Nums .i64 w3 (.slice p3 n3 c3) T/\Nums .i64 w3 (.slice q3 m3 e3) g.2):=⟨ag.nums,am.nums⟩
 clear ag am an aa J aq ad ay kx kg av aG cF aB;go_wp2_with fail
 generalize ak:World.alloc _ _=W4;have B4:Below w3.heap.size w3 W4:=by rw [<- ak];exact a_b w3 _
 have X4:Hid (Cel W4 w3.heap.size (.slice p3 n3 c3) (.slice q3 m3 e3)):=a_y ak (by simp [go_sem]);have U:=a_M (a_c af.out.1 B4) (a_c af.out.2 B4);have ai:Hid (Nums .i64 W4 (.slice p3 n3 c3) T/\Nums .i64 W4 (.slice q3 m3 e3) g.2):=⟨ae.out.1.up B4,ae.out.2.up B4⟩
 clear ak B4 af ae;refine (cN.out W4 U.out.1).mono ?_;rintro e w5 ⟨v5,rfl,⟨s5,t5,rfl,ao,aj⟩,I⟩;obtain ⟨p5,n5,c5,rfl⟩:=ao.form_;obtain ⟨q5,m5,e5,rfl⟩:=aj.form_;have ah:=a_M (a_c U.out.1 I) (a_c U.out.2 I);have X5:Hid (Cel w5 w3.heap.size (.slice p3 n3 c3) (.slice q3 m3 e3)):=X4.out.up I;have L:Hid ((Nums .i64 w5 (.slice p3 n3 c3) T/\Nums .i64 w5 (.slice q3 m3 e3) g.2)/\Nums .i64 w5 (.slice p5 n5 c5) d/\Nums .i64 w5 (.slice q5 m5 e5) Z):=⟨⟨ai.out.1.up I,ai.out.2.up I⟩,ao.nums,aj.nums⟩
 clear ao aj I U ai X4 cN;obtain ⟨az,aJ,_,_⟩:=X5.out;have ky:=a_a az;go_wp2_with fail
 generalize ap:World.alloc _ _=W6;have B6:Below w5.heap.size w5 W6:=by rw [<- ap];exact a_b w5 _
 have ab:=a_M (a_c ah.out.1 B6) (a_c ah.out.2 B6);have M:Hid ((Nums .i64 W6 (.slice p3 n3 c3) T/\Nums .i64 W6 (.slice q3 m3 e3) g.2)/\Nums .i64 W6 (.slice p5 n5 c5) d/\Nums .i64 W6 (.slice q5 m5 e5) Z):=⟨⟨L.out.1.1.up B6,L.out.1.2.up B6⟩,L.out.2.1.up B6,L.out.2.2.up B6⟩
 clear ap B6 ah L az aJ ky X5;refine (cA.out W6 _ _ _ _ _ _ _ _ _ _ _ _ M.out.1.1 M.out.1.2 M.out.2.1 M.out.2.2).mono ?_;rintro e w7 ⟨v7,rfl,⟨s7,t7,rfl,hs,ht⟩,aA⟩;obtain ⟨aF,aI,aC,rfl⟩:=hs.form_;obtain ⟨aD,aH,aE,rfl⟩:=ht.form_;obtain ⟨HF,r0,r1,r2,r3,z0,z1⟩:=d_5 XR ac (a_c ab.out.2 aA) (hs.low ab.out.2.size) (ht.low ab.out.2.size) (by omega);clear hs ht aA ab cA M;go_wp2;exact bodyPost_ret (v:=.tuple #[.agg #[.slice aF aI aC,.slice aD aH aE],.int .i64 0]) (by simp [results,Tryz.results108,go_sem,z0,z1]) rfl ⟨_,rfl,HF.out⟩
theorem i_N (p2:Option Addr) (n2 c2:Nat) (d:List Int) (v:Int) (hv:InR v) (gd:goodN (ntl d)) (w:World) (h2:Nums .i64 w (.slice p2 n2 c2) d):
  Calls Tryz.prog 109 #[.int .i64 v,.slice p2 n2 c2] w fun e w'=>∃ v',e = .returned (.tuple #[v',.int .i64 0])/\TRes w' w.heap.size v' d (List.replicate (a_e (ntl d)) (Fx.hold (rqI v (a_e (ntl d):Int))))/\Below w.heap.size w w':=by
 have rd:RI d:=i_E gd;have ac:1<=a_e (ntl d):=a_C gd.2.1;obtain ⟨N,eN⟩:∃ N,a_e (ntl d)=N:=⟨_,rfl⟩
 rw [eN] at ac ⊢
 have cN:Hid (∀ W x,Below w.heap.size w W->Calls Tryz.prog 67 #[.slice p2 n2 c2,.int .i64 x] W fun e w'=>∃ v',e = .returned (.tuple #[v',.int .i64 0])/\TRes w' W.heap.size v' d (List.replicate N x)/\Below W.heap.size W w'):=fun W x hW=>by
  have:=c_P (.slice p2 n2 c2) d rd x W (h2.up hW);rw [show l_X d=0 from if_pos gd,show d_S d=d from if_pos gd,show l_Y d x=List.replicate N x from (if_pos gd).trans (by rw [eN])] at this;exact this
 obtain ⟨Y,eY⟩:∃ Y,(List.replicate N (0:Int)).set 0 v=Y:=⟨_,rfl⟩
 have HY:Hid ((List.replicate N (0:Int)).set 0 v=Y):=eY;obtain ⟨H,eH⟩:∃ H,Fx.hold (rqI v (N:Int))=H:=⟨_,rfl⟩
 have cM:Hid (∀ W a_ b_ c_ d_ e_ f_,Nums .i64 W (.slice a_ b_ c_) d->Nums .i64 W (.slice d_ e_ f_) Y->Calls Tryz.prog 125 #[.agg #[.slice a_ b_ c_,.slice d_ e_ f_]] W fun e w'=>e = .returned (.tuple #[.int .i64 H,.int .i64 0])/\Below W.heap.size W w'):=fun W a_ b_ c_ d_ e_ f_ u1 u2=>by
  have ry:RI Y:=by
   rw [<- eY];intro y hy;rcases List.mem_or_eq_of_mem_set hy with h|h
   ·rw [List.eq_of_mem_replicate h];omega
   ·rw [h];exact hv
  have py:isP d Y:=⟨gd,by rw [<- eY,List.length_set,List.length_replicate,eN]⟩
  have:=j_I a_ d_ b_ c_ e_ f_ d Y rd ry W u1 u2;rw [show k_B d Y=0 from if_pos py,show f_Y d Y=H from (if_pos py).trans (by rw [<- eY,o_r v N ac,eH])] at this;exact this
 rw [eH];have af:(List.replicate N (0:Int)).length=N:=List.length_replicate;have HL:Hid ((List.replicate N (0:Int)).length=N):=af;obtain ⟨Z,eZ⟩:∃ Z,List.replicate N (0:Int)=Z:=⟨_,rfl⟩
 have HZ:Hid (List.replicate N (0:Int)=Z):=eZ;rw [eZ] at HY HL;have ar:(0:Int) < (N:Int):=by omega
 clear eN eY eH eZ af rd gd h2 hv;go_enter Tryz.func109,Tryz.ntmps109;go_wp2_with fail
 generalize O:World.alloc _ _=W0;have R:=b_C (w:=w) O (by go_grown);have XR:Hid (Cel W0 w.heap.size (.slice none 0 0) (.slice none 0 0)):=a_y O (by simp [go_sem]);clear O;refine (cN.out W0 0 R.out).mono ?_;rintro e w1 ⟨v1,rfl,⟨s1,t1,rfl,L,D⟩,ag⟩;obtain ⟨p1,n1,c1,rfl⟩:=L.form_;rw [HZ.out] at D;obtain ⟨J,cq,rfl,am⟩:=D.at (by rw [HL.out];omega)
 rw [HL.out] at D ⊢
 have M:Off J (.slice p1 n1 c1):=by
  obtain ⟨cs,fz,ao⟩:=D.obj;exact L.off_type ao (by decide)
 obtain ⟨ab,ap⟩:=D.cell HL.out 0 (by omega);have kg:=a_a ab
 have HS:Hid (Nums .i64 (w1.setCell ⟨J,0,none⟩ (.int .i64 v)) (.slice p1 n1 c1) d/\Nums .i64 (w1.setCell ⟨J,0,none⟩ (.int .i64 v)) (.slice (some ⟨J,0,none⟩) N cq) Y/\Below W0.heap.size W0 (w1.setCell ⟨J,0,none⟩ (.int .i64 v))):=by
  refine ⟨L.nums.stay ((Stay.refl J _).set 0 _) M,?_,ag.setCell (p:=⟨J,0,none⟩) am _⟩;have:=(D.store HL.out 0 v).nums;rw [HY.out] at this;exact this
 clear L D ag M;go_wp2_with fail
 generalize ae:World.alloc _ _=W2;have B2:Below (w1.setCell ⟨J,0,none⟩ (.int .i64 v)).heap.size (w1.setCell ⟨J,0,none⟩ (.int .i64 v)) W2:=by rw [<- ae];exact a_b _ _
 have U:=a_M (a_c R.out (a_c HS.out.2.2 B2)) (a_c HS.out.2.2 B2);have V:Hid (Nums .i64 W2 (.slice p1 n1 c1) d/\Nums .i64 W2 (.slice (some ⟨J,0,none⟩) N cq) Y):=⟨HS.out.1.up B2,HS.out.2.1.up B2⟩
 clear ae B2 HS kg ab ap;refine (cM.out W2 _ _ _ _ _ _ V.out.1 V.out.2).mono ?_;rintro e w3 ⟨rfl,aa⟩;have I:=a_M (a_c U.out.1 aa) (a_c U.out.2 aa);clear aa U cM V;go_wp2_with fail
 refine (cN.out w3 H I.out.1).mono ?_;rintro e w7 ⟨v7,rfl,⟨s7,t7,rfl,hs,ht⟩,ad⟩;obtain ⟨an,ak,ah,rfl⟩:=hs.form_;obtain ⟨ai,aq,aj,rfl⟩:=ht.form_;obtain ⟨HF,r0,r1,r2,r3,z0,z1⟩:=d_5 XR R (a_c I.out.2 ad) (hs.low I.out.2.size) (ht.low I.out.2.size) (by omega);clear hs ht ad I cN;go_wp2;exact bodyPost_ret (v:=.tuple #[.agg #[.slice an ak ah,.slice ai aq aj],.int .i64 0]) (by simp [results,Tryz.results109,go_sem,z0,z1]) rfl ⟨_,rfl,HF.out⟩
theorem i_O (p1 q1:Option Addr) (n1 c1 I e1:Nat) (p2 q2:Option Addr) (n2 c2 m2 e2:Nat) (g a:Ten) (K:Int) (hg:b_b g) (ha:b_b a) (hE:plE a.1 a.2 K=0) (o1:(plP a.1 a.2 K).length=g.2.length) (o2:∀ i,i < (plP a.1 a.2 K).length->0<=(plP a.1 a.2 K).getD i 0/\(plP a.1 a.2 K).getD i 0 < (a_e (ntl a.1):Int)) (o3:RI (plP a.1 a.2 K)) (w:World) (aK:Nums .i64 w (.slice p1 n1 c1) g.1) (ao:Nums .i64 w (.slice q1 I e1) g.2) (ak:Nums .i64 w (.slice p2 n2 c2) a.1) (aD:Nums .i64 w (.slice q2 m2 e2) a.2) (aG:m2<=e2):
  Calls Tryz.prog 112 #[.agg #[.slice p1 n1 c1,.slice q1 I e1],.agg #[.slice p2 n2 c2,.slice q2 m2 e2],.int .i64 K] w fun e w'=>∃ v',e = .returned (.tuple #[v',.int .i64 0])/\TRes w' w.heap.size v' a.1 (h_l (a_e (ntl a.1)) (plP a.1 a.2 K) g.2 (plP a.1 a.2 K).length)/\Below w.heap.size w w':=by
 have gd:=ha.1.1;have aM:1<=a_e (ntl a.1):=a_C gd.2.1;obtain ⟨N,eN⟩:∃ N,a_e (ntl a.1)=N:=⟨_,rfl⟩
 rw [eN] at aM o2 ⊢;obtain ⟨P,eP⟩:∃ P,plP a.1 a.2 K=P:=⟨_,rfl⟩
 obtain ⟨L,eL⟩:∃ L,P.length=L:=⟨_,rfl⟩
 have cP:Hid (∀ W,Below w.heap.size w W->Calls Tryz.prog 128 #[.agg #[.slice p2 n2 c2,.slice q2 m2 e2],.int .i64 K] W fun e w'=>∃ v' u',e = .returned (.tuple #[v',u',.int .i64 0])/\TRes w' W.heap.size v' (plD a.1 a.2 K) (plV a.1 a.2 K)/\OwnK .i64 3 w' W.heap.size u' P/\Below W.heap.size W w'):=fun W hW=>by
  have:=j_Q p2 q2 n2 c2 m2 e2 a.1 a.2 K ha.2.1 ha.2.2 aG W (ak.up hW) (aD.up hW);rw [hE,eP] at this;exact this
 have cN:Hid (∀ W,Below w.heap.size w W->Calls Tryz.prog 67 #[.slice p2 n2 c2,.int .i64 0] W fun e w'=>∃ v',e = .returned (.tuple #[v',.int .i64 0])/\TRes w' W.heap.size v' a.1 (h_l N P g.2 0)/\Below W.heap.size W w'):=fun W hW=>by
  have:=c_P (.slice p2 n2 c2) a.1 ha.2.1 0 W (ak.up hW);rw [show l_X a.1=0 from if_pos gd,show d_S a.1=a.1 from if_pos gd,show l_Y a.1 0=h_l N P g.2 0 from (if_pos gd).trans (by rw [eN];rfl)] at this;exact this
 rw [eP] at o1 o2 o3 ⊢;rw [eL] at o1 o2 ⊢;have HL:Hid (P.length=L):=eL;have HV:Hid (∀ k,(h_l N P g.2 k).length=N):=fun k=>g_3 N P g.2 k;have HI:Hid (∀ i,i < L->0<=P.getD i 0/\P.getD i 0 < (N:Int)):=o2
 have HG:Hid (Nums .i64 w (.slice q1 I e1) g.2/\g.2.length=L/\L<=1073741824):=⟨ao,o1.symm,by
  have h1:=hg.1.2;have h2:=hg.1.1.2.2;have h3:a_e (ntl g.1)<=4096:=h2;omega⟩
 obtain ⟨em,aL⟩:I=L/\True:=⟨by
  rcases ao with ⟨h,h0⟩|⟨ad,c,h,_⟩
  ·cases h;rw [h0] at o1;simpa using o1.symm
  ·cases h;exact o1.symm,trivial⟩
 subst em;clear eN eP eL o1 o2 o3 aK ao ak aD hg ha hE gd aL;go_enter Tryz.func112,Tryz.ntmps112;go_wp2_with fail
 generalize av:World.alloc _ _=W0;obtain ⟨ai,XG,XA,XR⟩:=m_p av;clear av;refine (cP.out W0 ai.out).mono ?_;rintro e w1 ⟨v1,u1,rfl,⟨s1,t1,rfl,az,aE⟩,ar,aa⟩;obtain ⟨p3,n3,c3,rfl⟩:=az.form_;obtain ⟨q3,m3,e3,rfl⟩:=aE.form_;obtain ⟨p4,c4,rfl,aj⟩:=ar.nums.view;rw [HL.out] at aj ar ⊢;have an:=a_M (a_c ai.out aa) aa;have aA:Hid (∀ j,j < I->∃ q o,p4=some ⟨q,o,none⟩/\w1.cell? ⟨q,o+j,none⟩=some (.int .i64 (P.getD j 0))):=aj;obtain ⟨aC,aQ,_,_⟩:=XA.out.up aa;have ky:=a_a aC;clear az aE ar aa cP aj;go_wp2_with fail
 generalize ay:World.alloc _ _=W2;have B2:Below w1.heap.size w1 W2:=by rw [<- ay];exact a_b _ _
 have U:=a_M (a_c an.out.1 B2) (a_c an.out.2 B2)
 have aS:Hid (∀ j,j < I->∃ q o,p4=some ⟨q,o,none⟩/\W2.cell? ⟨q,o+j,none⟩=some (.int .i64 (P.getD j 0))/\q < W2.heap.size):=fun j hj=>by
  obtain ⟨q,o,e1,e2⟩:=aA.out j hj;have:=a_d e2 B2;exact ⟨q,o,e1,this,a_a this⟩
 clear ay B2 an aA aC aQ ky XA;refine (cN.out W2 U.out.1).mono ?_;rintro e w3 ⟨v3,rfl,⟨s3,t3,rfl,ae,J⟩,af⟩;obtain ⟨p5,O,R,rfl⟩:=ae.form_;obtain ⟨D,V,rfl,aP⟩:=J.at (by rw [HV.out];omega)
 rw [HV.out] at J ⊢
 have ah:Off D (.slice p5 O R):=by
  obtain ⟨cs,fz,aI⟩:=J.obj;exact ae.off_type aI (by decide)
 have am:Hid (OwnK .i64 3 w3 W2.heap.size (.slice p5 O R) a.1/\Off D (.slice p5 O R)/\W2.heap.size<=D):=⟨ae,ah,aP⟩
 have ab:=a_M (a_c U.out.1 af) (a_M (a_c U.out.2 af) af);have kg:=J.size;have ax:Hid (OwnK .i64 23 w3 W2.heap.size (.slice (some ⟨D,0,none⟩) N V) (h_l N P g.2 0)):=J;clear ae J af ah cN;go_wp2_with fail
 generalize aq:World.alloc _ _=W4;have B4:Below w3.heap.size w3 W4:=by rw [<- aq];exact a_b _ _
 have XT:Hid (Cel W4 w3.heap.size (.slice p5 O R) (.slice (some ⟨D,0,none⟩) N V)):=a_y aq (by simp [go_sem]);have ac:Hid (Below w.heap.size w W4/\Below W0.heap.size W0 W4/\Below W2.heap.size W2 W4):=⟨a_c ab.out.1 B4,a_c ab.out.2.out.1 B4,a_c ab.out.2.out.2 B4⟩
 have M:Hid (OwnK .i64 3 W4 W2.heap.size (.slice p5 O R) a.1/\Off D (.slice p5 O R)/\W2.heap.size<=D):=⟨am.out.1.up B4,am.out.2⟩
 have aN:Hid (OwnK .i64 23 W4 W2.heap.size (.slice (some ⟨D,0,none⟩) N V) (h_l N P g.2 0)):=ax.out.up B4;have aO:Hid (Cel W4 w.heap.size (.slice p1 n1 c1) (.slice q1 I e1)):=XG.out.up ac.out.2.1;have aJ:Hid (Cel W4 (w.heap.size+2) (.slice none 0 0) (.slice none 0 0)):=XR.out.up ac.out.2.1;have Hg:Hid (D < w3.heap.size/\w.heap.size+2 < W2.heap.size):=⟨kg,Nat.lt_of_lt_of_le (a_a XR.out.1) U.out.2.size⟩
 clear aq B4 ab am ax XG XR kg ai U;obtain ⟨tb,aw⟩:∃ b,w3.heap.size=b:=⟨_,rfl⟩
 rw [aw] at XT Hg ⊢;clear aw;haveI:Nonempty World:=⟨w⟩
 go_loopg [37] I (fun gg i wr=>∃ (k:Nat),k<=I/\gg=I - k/\i = .int .i64 (k:Int)/\Hid (OwnK .i64 23 wr W2.heap.size (.slice (some ⟨D,0,none⟩) N V) (h_l N P g.2 k))/\Hid (Below w.heap.size w wr/\Stay D W4 wr))
 case atStart=>exact ⟨0,by omega,by omega,by first|rfl|simp,aN.out,ac.out.1,Stay.refl _ _⟩
 case round=>
  obtain ⟨k,hk,aU,rfl,HO,H⟩:=hrel;obtain ⟨R1,aR⟩:∃ R1:World,R1=wr:=⟨_,rfl⟩
  subst aR;by_cases ap:k < I
  ·have aV:(k:Int) < (I:Int):=by omega
   have hm:I<=1073741824:=HG.out.2.2
   obtain ⟨j,ej,hj⟩:∃ j:Nat,P.getD k 0=(j:Int)/\j < N:=by
    have:=HI.out k ap;exact ⟨(P.getD k 0).toNat,by omega,by omega⟩
   have aT:(j:Int) < (N:Int):=by omega
   obtain ⟨q,o,rfl,u1,u2⟩:=aS.out k ap;have u3:=H.out.2.cell (a_d u1 ac.out.2.2) (show q≠D by have:=M.out.2.2;omega);rw [ej] at u3;have u4:=a_a u3;obtain ⟨Y,eY⟩:∃ Y,g.2.getD k 0=Y:=⟨_,rfl⟩
   have HY:Hid (g.2.getD k 0=Y/\(P.getD k 0).toNat=j):=⟨eY,by omega⟩
   obtain ⟨q',o',rfl,d1⟩:∃ q' o',q1=some ⟨q',o',none⟩/\R1.cell? ⟨q',o'+k,none⟩=some (.int .i64 Y):=by
    obtain ⟨p_,c_,e_,hv⟩:=HG.out.1.view;cases e_;obtain ⟨q',o',e1,e2⟩:=hv k (by rw [HG.out.2.1];exact ap);rw [eY] at e2;exact ⟨q',o',e1,a_d e2 H.out.1⟩
   have d2:=a_a d1;obtain ⟨t0,t1,_,_⟩:=XT.out.stay H.out.2 (by have:=Hg.out;omega);have t9:=a_a t0;obtain ⟨x0,x1,_,_⟩:=aO.out.stay H.out.2 (by have:=Hg.out;have:=M.out.2.2;omega);have x9:=a_a x0;obtain ⟨ag,aF⟩:=HO.out.cell (HV.out k) j hj;have aH:=a_a ag;have aB:w.heap.size<=D:=by have:=Hg.out;have:=M.out.2.2;omega
   have H5:Hid (OwnK .i64 23 (R1.setCell ⟨D,j,none⟩ (.int .i64 Y)) W2.heap.size (.slice (some ⟨D,0,none⟩) N V) (h_l N P g.2 (k+1))/\Below w.heap.size w (R1.setCell ⟨D,j,none⟩ (.int .i64 Y))/\Stay D W4 (R1.setCell ⟨D,j,none⟩ (.int .i64 Y))):=by
    refine ⟨?_,H.out.1.setCell (p:=⟨D,j,none⟩) aB _,H.out.2.set _ _⟩;have:=HO.out.store (HV.out k) j Y;rw [h_l,HY.out.1,HY.out.2];exact this
   clear eY ej u1 u2 HO H aB;go_wp2_with fail
   go_region;generalize au:World.drew _=W9;have H6:Hid (OwnK .i64 23 W9 W2.heap.size (.slice (some ⟨D,0,none⟩) N V) (h_l N P g.2 (k+1))):=by show OwnK _ _ _ _ _ _;rw [<- au];exact H5.out.1.up ⟨rfl,rfl,rfl,Nat.le_refl _,fun _ _=>rfl⟩
   have H7:Hid (Below w.heap.size w W9/\Stay D W4 W9):=by
    have d:Below (R1.setCell ⟨D,j,none⟩ (.int .i64 Y)).heap.size (R1.setCell ⟨D,j,none⟩ (.int .i64 Y)) W9:=by rw [<- au];exact ⟨rfl,rfl,rfl,Nat.le_refl _,fun _ _=>rfl⟩
    exact ⟨a_c H5.out.2.1 d,H5.out.2.2.up d⟩
   clear au H5 u3 u4 d1 d2 t0 t1 t9 x0 x1 x9 ag aF aH;go_wp2;go_roundg (I - (k+1))
   case measure=>omega
   case rel=>exact ⟨k+1,by omega,rfl,by first|rfl|simp,H6,H7⟩
  ·obtain rfl:k=I:=by omega
   have g1:=Hg.out;have g2:=M.out.2.2;have xR:=aJ.out.stay H.out.2 (by omega);have xT:=XT.out.stay H.out.2 (by omega);have o1:=M.out.1.stay H.out.2 M.out.2.1;have HF:Hid (TRes (set2 R1 (w.heap.size+2) (.slice p5 O R) (.slice (some ⟨D,0,none⟩) N V)) w.heap.size (.agg #[.slice p5 O R,.slice (some ⟨D,0,none⟩) N V]) a.1 (h_l N P g.2 k)/\Below w.heap.size w (set2 R1 (w.heap.size+2) (.slice p5 O R) (.slice (some ⟨D,0,none⟩) N V))):=⟨(TRes.set o1 HO.out g1.2).low (by omega),a_j H.out.1 _ (by omega) _ _⟩
   have cf:=xR.set (.slice p5 O R) (.slice (some ⟨D,0,none⟩) N V);obtain ⟨r0,r1,r2,r3⟩:=xR;obtain ⟨t0,t1,_,_⟩:=xT;have kt:=a_a t0;have kr:=a_a r0;have z0:=cf.1;have z1:=cf.2.1;clear cf o1 HO H;go_wp2;exact bodyPost_ret (v:=.tuple #[.agg #[.slice p5 O R,.slice (some ⟨D,0,none⟩) N V],.int .i64 0]) (by simp [results,Tryz.results112,go_sem,z0,z1]) rfl ⟨_,rfl,HF.out⟩
theorem r_3 (p p2 p3 p4:Option Addr) (n c n2 c2 n3 c3 n4 c4:Nat) (d x d' y:List Int) (st lg:Int) (hd:RI d) (hx:RI x) (a3:RI d') (hy:RI y) (H:biE d x d' y st lg=0) (w:World) (hT:Hid (Tz w)) (h1:Nums .i64 w (.slice p n c) d) (h2:Nums .i64 w (.slice p2 n2 c2) x) (h3:Nums .i64 w (.slice p3 n3 c3) d') (h4:Nums .i64 w (.slice p4 n4 c4) y):
  Calls Tryz.prog 111 #[.agg #[.slice p n c,.slice p2 n2 c2],.agg #[.slice p3 n3 c3,.slice p4 n4 c4],.int .i64 st,.int .i64 lg] w fun e w'=>∃ v',e = .returned (.tuple #[v',.int .i64 (biE d x d' y st lg)])/\TRes w' w.heap.size v' (biD d x d' y st lg) (biV d x d' y st lg)/\Below w.heap.size w w':=by
 have cA:=fun W (hW:Below w.heap.size w W)=>a_D _ _ d x hd W (h1.up hW) (h2.up hW);have cB:=fun W (hW:Below w.heap.size w W)=>a_D _ _ d' y a3 W (h3.up hW) (h4.up hW);have aD:∀ W:World,Calls Tryz.prog 137 #[.int .i64 st] W fun e w'=>e = .returned (.bool (decide (1<=st/\st<=64)))/\Below W.heap.size W w':=fun W=>d_c st W;have aE:∀ W:World,Calls Tryz.prog 138 #[.int .i64 lg] W fun e w'=>e = .returned (.bool (decide (1<=lg/\lg<=4096)))/\Below W.heap.size W w':=fun W=>d_I lg W;obtain ⟨_,_,_,e4,HD⟩:=h1.lst;cases e4;obtain ⟨_,_,_,e4,af⟩:=h3.lst;cases e4;have HN:Hid (Nums .i64 w (.slice p2 n2 c2) x/\Nums .i64 w (.slice p4 n4 c4) y):=⟨h2,h4⟩
 haveI:Nonempty World:=⟨w⟩
 by_cases hp:isP d x
 ·rw [decide_eq_true hp] at cA;by_cases hq:isP d' y
  ·rw [decide_eq_true hq] at cB;by_cases hs:1<=st/\st<=64
   ·rw [decide_eq_true hs] at aD;by_cases hl:1<=lg/\lg<=4096
    ·rw [decide_eq_true hl] at aE;have hA:biA d x d' y st lg:=⟨hp,hq,hs,hl⟩
     obtain ⟨stN,rfl⟩:∃ q:Nat,st=q:=⟨st.toNat,by omega⟩
     obtain ⟨D,rfl⟩:∃ q:Nat,lg=q:=⟨lg.toNat,by omega⟩
     have bj:n<=4:=by have:=hp.1.1;rw [a_Q,HD.out.1] at this;exact this
     have bh:(n:Int)<=4:=by omega
     have bv:n3<=4:=by have:=hq.1.1;rw [a_Q,af.out.1] at this;exact this
     have bi:(n3:Int)<=4:=by omega
     by_cases hn:n=2
     ·subst hn;by_cases aS:n3=3
      ·subst aS;obtain ⟨D0,D1,rfl,aU,k0,k1,k2⟩:=a_X hp HD.out.1;obtain ⟨E0,I,R,rfl,aT,l0,l1,l2,l3⟩:=c_d hq af.out.1
       have aZ:Hid ((∃ q o,p=some ⟨q,o,none⟩/\w.cell? ⟨q,o,none⟩=some (.int .i64 (D0:Int))/\w.cell? ⟨q,o+1,none⟩=some (.int .i64 (D1:Int)))/\(∃ q o,p3=some ⟨q,o,none⟩/\w.cell? ⟨q,o,none⟩=some (.int .i64 (E0:Int))/\w.cell? ⟨q,o+1,none⟩=some (.int .i64 (I:Int))/\w.cell? ⟨q,o+2,none⟩=some (.int .i64 (R:Int)))):=by
        obtain ⟨q,o,rfl,a8⟩:=HD.out.2 0 (by omega);obtain ⟨q',o',e',bd⟩:=HD.out.2 1 (by omega);cases e';obtain ⟨r,s,rfl,ba⟩:=af.out.2 0 (by omega);obtain ⟨r',s',e',ao⟩:=af.out.2 1 (by omega);cases e';obtain ⟨r',s',e',ai⟩:=af.out.2 2 (by omega);cases e';exact ⟨⟨_,_,rfl,a8,bd⟩,_,_,rfl,ba,ao,ai⟩
       obtain ⟨⟨qa,oa,rfl,aG,aO⟩,qb,ob,rfl,aI,aH,aL⟩:=aZ.out;have zD:=c_M k2 k0 k1;have bc:E0*I<=4096:=Nat.le_trans (Nat.le_mul_of_pos_right _ l2) l3;have zE:=c_M bc l0 l1;have bu:R<=4096:=by have:=Nat.mul_le_mul (Nat.mul_le_mul l0 l1) (Nat.le_refl R);omega
       have br:(D0:Int)<=4096/\(D1:Int)<=4096:=by omega
       have bq:(E0:Int)<=4096/\(I:Int)<=4096/\(R:Int)<=4096:=by omega
       by_cases hm:D0=E0
       ·subst hm;have bo:((D0:Int) != (D0:Int))=false:=by simp
        by_cases hw:R<=D
        ·have bl:(R:Int)<=(D:Int):=by omega
         by_cases hS:a_L D R stN=D1
         ·obtain ⟨M,e2,e3⟩:=i_A hA hw hS;clear H;rw [M,e2,e3];have HG:Hid (∀ (gs:Nat) (pd:Option Addr) (nd cd:Nat) (W:World),Below w.heap.size w W->Nums .i64 W (.slice pd nd cd) [(I:Int),(D:Int)]->SlC W gs I D D0 R stN->W.cell? ⟨w.heap.size,1,none⟩=some (.slice p2 n2 c2)->W.cell? ⟨w.heap.size+1,1,none⟩=some (.slice p4 n4 c4)->Calls Tryz.prog 140 #[.slice pd nd cd,.func (.func 141) #[] #[.pointer (some ⟨gs,0,none⟩),.pointer (some ⟨w.heap.size,0,none⟩),.pointer (some ⟨w.heap.size+1,0,none⟩)]] W fun e w'=>∃ v',e = .returned (.tuple #[v',.int .i64 (f_1 [(I:Int),(D:Int)])])/\TRes w' W.heap.size v' (d_S [(I:Int),(D:Int)]) (if goodN (ntl [(I:Int),(D:Int)]) then h_T D0 I D1 R stN D x y else [])/\Below W.heap.size W w'):=fun gs pd nd cd W hW hN hs bf bb=>q_b I D D0 R stN D1 hS l2 hw (by omega) (by omega) (by omega) l1 k0 l3 k2 zD.1 zE.2 gs _ _ p2 n2 c2 p4 n4 c4 x y hx hy aU aT pd nd cd W (Hid.up_tz hT hW) hN hs bf bb (HN.out.1.up hW) (HN.out.2.up hW);obtain ⟨EE,aY⟩:∃ E,f_1 [(I:Int),(D:Int)]=E:=⟨_,rfl⟩
          obtain ⟨DD,a4⟩:∃ E,d_S [(I:Int),(D:Int)]=E:=⟨_,rfl⟩
          obtain ⟨VV,aW⟩:∃ E,(if goodN (ntl [(I:Int),(D:Int)]) then h_T D0 I D1 R stN D x y else [])=E:=⟨_,rfl⟩
          rw [aY,a4,aW] at HG ⊢
          have a7:∀ W:World,Calls Tryz.prog 139 #[.agg #[.int .i64 (I:Int),.int .i64 (D:Int),.int .i64 (D0:Int),.int .i64 (R:Int),.int .i64 (stN:Int)]] W fun e w'=>e = .returned (.int .i64 (D1:Int))/\Below W.heap.size W w':=fun W=>by
           have:=e_c I D D0 R stN hw (by omega) (by omega) (by omega) W;rw [hS] at this;exact this
          have bs:((D1:Int) != (D1:Int))=false:=by simp
          have bp:∀ (fn:Fn) (first a5:Array Value) (w:World),(Instr.makeFunc fn first a5).run Tryz.prog w = .ok (.func fn first a5) w:=fun _ _ _ _=>rfl;clear M e2 e3 hA hp hq hd hx a3 hy h1 h2 h3 h4 HD af aZ aU aT HN hS aY a4 aW;go_enter Tryz.func111,Tryz.ntmps111;go_wp2_with fail
          generalize ah:World.alloc _ _=W0;have aR:=b_C (w:=w) ah (by go_grown);have XA:Hid (Cel W0 w.heap.size (.slice (some ⟨qa,oa,none⟩) 2 c) (.slice p2 n2 c2)):=a_y ah (by simp [go_sem]);have XB:Hid (Cel W0 (w.heap.size+1) (.slice (some ⟨qb,ob,none⟩) 3 c3) (.slice p4 n4 c4)):=a_y ah (by simp [go_sem]);have XR:Hid (Cel W0 (w.heap.size+1+1) (.slice none 0 0) (.slice none 0 0)):=a_y ah (by simp [go_sem]);clear ah;refine (cA W0 aR.out).mono ?_;rintro e w1 ⟨rfl,ao⟩;have av:=a_M (a_c aR.out ao) ao;clear ao cA;obtain ⟨b0,b1,_,_⟩:=XB.out.up av.out.2;go_wp2_with fail
          refine (cB w1 av.out.1).mono ?_;rintro e w2 ⟨rfl,ai⟩;have aN:=a_M (a_c av.out.1 ai) (a_c av.out.2 ai);clear ai cB b0 b1 av;go_wp2_with fail
          refine (aD w2).mono ?_;rintro e w3 ⟨rfl,aP⟩;have aM:=a_M (a_c aN.out.1 aP) (a_c aN.out.2 aP);clear aP aD aN;go_wp2_with fail
          refine (aE w3).mono ?_;rintro e w4 ⟨rfl,aJ⟩;have O:=a_M (a_c aM.out.1 aJ) (a_c aM.out.2 aJ);clear aJ aE aM;obtain ⟨a0,a1,_,_⟩:=XA.out.up O.out.2;obtain ⟨b0,b1,_,_⟩:=XB.out.up O.out.2;have a9:=a_a a0;have b9:=a_a b0;have aa:=a_d aG O.out.1;have ap:=a_a aa;have ab:=a_d aO O.out.1;have an:=a_a ab;have U:=a_d aI O.out.1;have aj:=a_a U;have V:=a_d aH O.out.1;have ak:=a_a V;have ae:=a_d aL O.out.1;have ar:=a_a ae;go_wp2_with fail
          go_quiet (fail)
          generalize aX:World.drewN w4 nq=w5;have J:Hid (Below w.heap.size w w5/\Below W0.heap.size W0 w5):=by rw [<- aX];exact ⟨a_l O.out.1 nq,a_l O.out.2 nq⟩
          clear aX;clear a0 a1 b0 b1 a9 b9 aa ap ab an U aj V ak ae ar;obtain ⟨a0,a1,_,_⟩:=XA.out.up J.out.2;obtain ⟨b0,b1,_,_⟩:=XB.out.up J.out.2;have a9:=a_a a0;have b9:=a_a b0;have aa:=a_d aG J.out.1;have ap:=a_a aa;have ab:=a_d aO J.out.1;have an:=a_a ab;have U:=a_d aI J.out.1;have aj:=a_a U;have V:=a_d aH J.out.1;have ak:=a_a V;have ae:=a_d aL J.out.1;have ar:=a_a ae;go_wp2_with fail
          refine d_1 (.cells #[.int .i64 0,.int .i64 0,.int .i64 0,.int .i64 0,.int .i64 0] 204) 15 16 92 10 (by kernel_rfl) rfl rfl (by kernel_rfl) rfl rfl rfl ?_;apply Exists.intro;refine ⟨?_,?_,?_⟩
          ·intro F hF;have hFc:=hF.cell;have hFf:=hF.frozen;simp only [List.take_succ_cons,List.take_zero,List.eraseIdx_cons_succ,List.eraseIdx_cons_zero]
           repeat (go_big_quiet_step (fail))
           refine wpQuiet_nil ?_;exact rfl
          ·intro W
           kernel_rfl
          intro W6 g8 hW hM;have Y0:=hM.cell (i:=0) rfl;have Y1:=hM.cell (i:=1) rfl;have Y2:=hM.cell (i:=2) rfl;have Y3:=hM.cell (i:=3) rfl;have Y4:=hM.cell (i:=4) rfl;have Z0:=hM.frozen 0;have Z1:=hM.frozen 1;have Z2:=hM.frozen 2;have Z3:=hM.frozen 3;have Z4:=hM.frozen 4;have be:g8 < W6.heap.size:=hM.1;have aK:w5.heap.size<=g8:=hM.2.1;have N5:=s_X W6 g8 (.int .i64 (I:Int)) (.int .i64 (D:Int)) (.int .i64 (D0:Int)) (.int .i64 (R:Int)) (.int .i64 (stN:Int)) Y0 Y1 Y2 Y3 Y4;have N6:=b_2 (a_c J.out.1 hW) g8 (Nat.le_trans J.out.1.size aK) (.int .i64 (I:Int)) (.int .i64 (D:Int)) (.int .i64 (D0:Int)) (.int .i64 (R:Int)) (.int .i64 (stN:Int));have N7:=b_2 (a_c J.out.2 hW) g8 (Nat.le_trans J.out.2.size aK) (.int .i64 (I:Int)) (.int .i64 (D:Int)) (.int .i64 (D0:Int)) (.int .i64 (R:Int)) (.int .i64 (stN:Int));simp only [List.drop_succ_cons,List.drop_zero];unfold d_F;clear hM hW a0 a1 b0 b1 a9 b9 aa ap ab an U aj V ak ae ar aK;go_wp2_with fail
          refine a_P (fun w7 a6=>?_);rw [<- a6] at N5 N6 N7;clear a6 Y0 Y1 Y2 Y3 Y4 Z0 Z1 Z2 Z3 Z4 be;have L:Hid (Below w.heap.size w w7/\Below W0.heap.size W0 w7):=⟨N6,N7⟩
          have X7:Hid (SlC w7 g8 I D D0 R stN):=N5;clear N5 N6 N7;obtain ⟨a0,a1,_,_⟩:=XA.out.up L.out.2;obtain ⟨b0,b1,_,_⟩:=XB.out.up L.out.2;have a9:=a_a a0;have b9:=a_a b0;have aa:=a_d aG L.out.1;have ap:=a_a aa;have ab:=a_d aO L.out.1;have an:=a_a ab;have U:=a_d aI L.out.1;have aj:=a_a U;have V:=a_d aH L.out.1;have ak:=a_a V;have ae:=a_d aL L.out.1;have ar:=a_a ae;obtain ⟨z0,z1,z2,z3,z4⟩:=X7.out;have zl:=a_a z0;refine j_r 7 92 (by kernel_rfl) rfl rfl (by kernel_rfl) ?_;apply Exists.intro;refine ⟨?_,?_⟩
          ·intro F hF;have hFc:=hF.cell;have hFf:=hF.frozen;simp only [List.take_succ_cons,List.take_zero,List.eraseIdx_cons_succ,List.eraseIdx_cons_zero]
           repeat (go_big_quiet_step (first|(go_at_call 139;with_reducible exact hF.call (a7 _))))
           refine wpQuiet_nil ?_;exact rfl
          intro w8 aB;simp only [List.drop_succ_cons,List.drop_zero];have aC:=a_M (a_c L.out.1 aB) (a_c L.out.2 aB);have X8:Hid (SlC w8 g8 I D D0 R stN):=X7.out.up aB;clear aB a0 a1 b0 b1 a9 b9 aa ap ab an U aj V ak ae ar z0 z1 z2 z3 z4 zl X7 L a7;obtain ⟨a0,a1,_,_⟩:=XA.out.up aC.out.2;obtain ⟨b0,b1,_,_⟩:=XB.out.up aC.out.2;have a9:=a_a a0;have b9:=a_a b0;obtain ⟨z0,z1,z2,z3,z4⟩:=X8.out;have zl:=a_a z0;go_wp2_with fail
          generalize aQ:World.alloc _ _=W9;have aA:Below w8.heap.size w8 W9:=by rw [<- aQ];exact a_b w8 _
          have aV:Nums .i64 W9 (.slice (some ⟨w8.heap.size,0,none⟩) 2 2) [(I:Int),(D:Int)]:=by rw [<- aQ];exact a_3 (k:=.i64) w8 [(I:Int),(D:Int)] 2 (0,0) rfl
          have ag:=a_M (a_c aC.out.1 aA) (a_c aC.out.2 aA);refine (HG.out g8 _ _ _ W9 ag.out.1 aV (X8.out.up aA) (XA.out.up ag.out.2).2.1 (XB.out.up ag.out.2).2.1).mono ?_;rintro e a2 ⟨bm,rfl,⟨bk,bn,rfl,ay,aw⟩,ax⟩;obtain ⟨az,aq,ad,rfl,_⟩:=ay.nums.lst;obtain ⟨au,am,ac,rfl,_⟩:=aw.nums.lst;have aF:=a_M (a_c ag.out.1 ax) (a_c ag.out.2 ax);have xr:=XR.out.up aF.out.2;have hz:=a_a XR.out.1;have bt:=ag.out.2.size;have HF:Hid (TRes (set2 a2 (w.heap.size+1+1) (.slice az aq ad) (.slice au am ac)) w.heap.size (.agg #[.slice az aq ad,.slice au am ac]) DD VV/\Below w.heap.size w (set2 a2 (w.heap.size+1+1) (.slice az aq ad) (.slice au am ac))):=⟨(TRes.set ay aw (by omega)).low (by have:=ag.out.1.size;omega),a_j aF.out.1 _ (by omega) _ _⟩
          have cf:=xr.set (.slice az aq ad) (.slice au am ac);obtain ⟨r0,r1,r2,r3⟩:=xr;obtain ⟨y0,y1,_,_⟩:=cf;have r9:=a_a r0;clear ay aw ax aV aA aQ a0 a1 b0 b1 a9 b9 z0 z1 z2 z3 z4 zl HG;go_wp2;exact bodyPost_ret (v:=.tuple #[.agg #[.slice az aq ad,.slice au am ac],.int .i64 EE]) (by simp [results,Tryz.results111,go_sem,y0,y1]) rfl ⟨_,rfl,HF.out⟩
         ·obtain ⟨SX,bg⟩:∃ S,a_L D R stN=S:=⟨_,rfl⟩
          rw [bg] at hS;obtain ⟨M,e2,e3⟩:=e_d hA (fun h=>hS (by have:=h.2.2.2.2;simp at this;omega));rw [M] at H;cases H
        ·obtain ⟨M,e2,e3⟩:=e_d hA (fun h=>hw (by have:=h.2.2.2.1;simp at this;omega));rw [M] at H;cases H
       ·obtain ⟨M,e2,e3⟩:=e_d hA (fun h=>hm (by have:=h.2.2.1;simp at this;omega));rw [M] at H;cases H
      ·obtain ⟨M,e2,e3⟩:=e_d hA (fun h=>aS (by rw [<- af.out.1];exact h.2.1));rw [M] at H;cases H
     ·obtain ⟨M,e2,e3⟩:=e_d hA (fun h=>hn (by rw [<- HD.out.1];exact h.1));rw [M] at H;cases H
    ·rw [decide_eq_false hl] at aE;obtain ⟨M,e2,e3⟩:=j_M (d:=d) (x:=x) (d':=d') (y:=y) (st:=st) (lg:=lg) (fun h=>hl h.2.2.2);rw [M] at H;cases H
   ·rw [decide_eq_false hs] at aD;obtain ⟨M,e2,e3⟩:=j_M (d:=d) (x:=x) (d':=d') (y:=y) (st:=st) (lg:=lg) (fun h=>hs h.2.2.1);rw [M] at H;cases H
  ·rw [decide_eq_false hq] at cB;obtain ⟨M,e2,e3⟩:=j_M (d:=d) (x:=x) (d':=d') (y:=y) (st:=st) (lg:=lg) (fun h=>hq h.2.1);rw [M] at H;cases H
 ·rw [decide_eq_false hp] at cA;obtain ⟨M,e2,e3⟩:=j_M (d:=d) (x:=x) (d':=d') (y:=y) (st:=st) (lg:=lg) (fun h=>hp h.1);rw [M] at H;cases H
theorem q_D (p p2 p3 p4:Option Addr) (n c n2 c2 n3 c3 n4 c4:Nat) (d x d' y:List Int) (st lg:Int) (hd:RI d) (hx:RI x) (aZ:RI d') (hy:RI y) (H:bkE d x d' y st lg=0) (w:World) (hT:Hid (Tz w)) (h1:Nums .i64 w (.slice p n c) d) (h2:Nums .i64 w (.slice p2 n2 c2) x) (h3:Nums .i64 w (.slice p3 n3 c3) d') (h4:Nums .i64 w (.slice p4 n4 c4) y):
  Calls Tryz.prog 116 #[.agg #[.slice p n c,.slice p2 n2 c2],.agg #[.slice p3 n3 c3,.slice p4 n4 c4],.int .i64 st,.int .i64 lg] w fun e w'=>∃ v',e = .returned (.tuple #[v',.int .i64 (bkE d x d' y st lg)])/\TRes w' w.heap.size v' (bkD d x d' y st lg) (bkV d x d' y st lg)/\Below w.heap.size w w':=by
 have cA:=fun W (hW:Below w.heap.size w W)=>a_D _ _ d x hd W (h1.up hW) (h2.up hW);have cB:=fun W (hW:Below w.heap.size w W)=>a_D _ _ d' y aZ W (h3.up hW) (h4.up hW);have aB:∀ W:World,Calls Tryz.prog 137 #[.int .i64 st] W fun e w'=>e = .returned (.bool (decide (1<=st/\st<=64)))/\Below W.heap.size W w':=fun W=>d_c st W;have aC:∀ W:World,Calls Tryz.prog 138 #[.int .i64 lg] W fun e w'=>e = .returned (.bool (decide (1<=lg/\lg<=4096)))/\Below W.heap.size W w':=fun W=>d_I lg W;obtain ⟨_,_,_,e4,HD⟩:=h1.lst;cases e4;obtain ⟨_,_,_,e4,ag⟩:=h3.lst;cases e4;have HN:Hid (Nums .i64 w (.slice p2 n2 c2) x/\Nums .i64 w (.slice p4 n4 c4) y):=⟨h2,h4⟩
 haveI:Nonempty World:=⟨w⟩
 by_cases hp:isP d x
 ·rw [decide_eq_true hp] at cA;by_cases hq:isP d' y
  ·rw [decide_eq_true hq] at cB;by_cases hs:1<=st/\st<=64
   ·rw [decide_eq_true hs] at aB;by_cases hl:1<=lg/\lg<=4096
    ·rw [decide_eq_true hl] at aC;have hA:biA d x d' y st lg:=⟨hp,hq,hs,hl⟩
     obtain ⟨stN,rfl⟩:∃ q:Nat,st=q:=⟨st.toNat,by omega⟩
     obtain ⟨D,rfl⟩:∃ q:Nat,lg=q:=⟨lg.toNat,by omega⟩
     have bg:n<=4:=by have:=hp.1.1;rw [a_Q,HD.out.1] at this;exact this
     have be:(n:Int)<=4:=by omega
     have bq:n3<=4:=by have:=hq.1.1;rw [a_Q,ag.out.1] at this;exact this
     have bf:(n3:Int)<=4:=by omega
     by_cases hn:n=2
     ·subst hn;by_cases aQ:n3=2
      ·subst aQ;obtain ⟨J,D1,rfl,aS,k0,k1,k2⟩:=a_X hp HD.out.1;obtain ⟨I,V,rfl,aR,l0,l1,l3⟩:=a_X hq ag.out.1
       have aX:Hid ((∃ q o,p=some ⟨q,o,none⟩/\w.cell? ⟨q,o,none⟩=some (.int .i64 (J:Int))/\w.cell? ⟨q,o+1,none⟩=some (.int .i64 (D1:Int)))/\(∃ q o,p3=some ⟨q,o,none⟩/\w.cell? ⟨q,o,none⟩=some (.int .i64 (I:Int))/\w.cell? ⟨q,o+1,none⟩=some (.int .i64 (V:Int)))):=by
        obtain ⟨q,o,rfl,a6⟩:=HD.out.2 0 (by omega);obtain ⟨q',o',e',ba⟩:=HD.out.2 1 (by omega);cases e';obtain ⟨r,s,rfl,a7⟩:=ag.out.2 0 (by omega);obtain ⟨r',s',e',an⟩:=ag.out.2 1 (by omega);cases e';exact ⟨⟨_,_,rfl,a6,ba⟩,_,_,rfl,a7,an⟩
       obtain ⟨⟨qa,oa,rfl,aF,aM⟩,qb,ob,rfl,aH,aG⟩:=aX.out;have zD:=c_M k2 k0 k1;have zE:=c_M l3 l0 l1;have bn:(J:Int)<=4096/\(D1:Int)<=4096:=by omega
       have bm:(I:Int)<=4096/\(V:Int)<=4096:=by omega
       by_cases hw:D<=V
       ·have bi:(D:Int)<=(V:Int):=by omega
        by_cases hS:a_L V D stN=D1
        ·obtain ⟨O,e2,e3⟩:=i_B hA hw hS;clear H;rw [O,e2,e3];have HG:Hid (∀ (gs:Nat) (pd:Option Addr) (nd cd:Nat) (W:World),Below w.heap.size w W->Nums .i64 W (.slice pd nd cd) [(J:Int),(I:Int),(D:Int)]->SlC W gs I V J D stN->W.cell? ⟨w.heap.size,1,none⟩=some (.slice p2 n2 c2)->W.cell? ⟨w.heap.size+1,1,none⟩=some (.slice p4 n4 c4)->Calls Tryz.prog 140 #[.slice pd nd cd,.func (.func 145) #[] #[.pointer (some ⟨gs,0,none⟩),.pointer (some ⟨w.heap.size,0,none⟩),.pointer (some ⟨w.heap.size+1,0,none⟩)]] W fun e w'=>∃ v',e = .returned (.tuple #[v',.int .i64 (f_1 [(J:Int),(I:Int),(D:Int)])])/\TRes w' W.heap.size v' (d_S [(J:Int),(I:Int),(D:Int)]) (if goodN (ntl [(J:Int),(I:Int),(D:Int)]) then o_9 J I D1 V D stN x y else [])/\Below W.heap.size W w'):=fun gs pd nd cd W hW hN hs bc a8=>o_c I V J D stN D1 hS (by omega) hw zE.2 (by omega) (by omega) l0 k0 k2 l3 zD.1 zE.1 gs _ _ p2 n2 c2 p4 n4 c4 x y hx hy aS aR pd nd cd W (Hid.up_tz hT hW) hN hs bc a8 (HN.out.1.up hW) (HN.out.2.up hW);obtain ⟨EE,aW⟩:∃ E,f_1 [(J:Int),(I:Int),(D:Int)]=E:=⟨_,rfl⟩
         obtain ⟨DD,a2⟩:∃ E,d_S [(J:Int),(I:Int),(D:Int)]=E:=⟨_,rfl⟩
         obtain ⟨VV,aU⟩:∃ E,(if goodN (ntl [(J:Int),(I:Int),(D:Int)]) then o_9 J I D1 V D stN x y else [])=E:=⟨_,rfl⟩
         rw [aW,a2,aU] at HG ⊢
         have a5:∀ W:World,Calls Tryz.prog 139 #[.agg #[.int .i64 (I:Int),.int .i64 (V:Int),.int .i64 (J:Int),.int .i64 (D:Int),.int .i64 (stN:Int)]] W fun e w'=>e = .returned (.int .i64 (D1:Int))/\Below W.heap.size W w':=fun W=>by
          have:=e_c I V J D stN hw (by omega) (by omega) (by omega) W;rw [hS] at this;exact this
         have bo:((D1:Int) != (D1:Int))=false:=by simp
         have bl:∀ (fn:Fn) (first a3:Array Value) (w:World),(Instr.makeFunc fn first a3).run Tryz.prog w = .ok (.func fn first a3) w:=fun _ _ _ _=>rfl;clear O e2 e3 hA hp hq hd hx aZ hy h1 h2 h3 h4 HD ag aX aS aR HN hS aW a2 aU;go_enter Tryz.func116,Tryz.ntmps116;go_wp2_with fail
         generalize ah:World.alloc _ _=W0;have aP:=b_C (w:=w) ah (by go_grown);have XA:Hid (Cel W0 w.heap.size (.slice (some ⟨qa,oa,none⟩) 2 c) (.slice p2 n2 c2)):=a_y ah (by simp [go_sem]);have XB:Hid (Cel W0 (w.heap.size+1) (.slice (some ⟨qb,ob,none⟩) 2 c3) (.slice p4 n4 c4)):=a_y ah (by simp [go_sem]);have XR:Hid (Cel W0 (w.heap.size+1+1) (.slice none 0 0) (.slice none 0 0)):=a_y ah (by simp [go_sem]);clear ah;refine (cA W0 aP.out).mono ?_;rintro e w1 ⟨rfl,an⟩;have ar:=a_M (a_c aP.out an) an;clear an cA;obtain ⟨b0,b1,_,_⟩:=XB.out.up ar.out.2;go_wp2_with fail
         refine (cB w1 ar.out.1).mono ?_;rintro e w2 ⟨rfl,aE⟩;have aL:=a_M (a_c ar.out.1 aE) (a_c ar.out.2 aE);clear aE cB b0 b1 ar;go_wp2_with fail
         refine (aB w2).mono ?_;rintro e w3 ⟨rfl,aN⟩;have aK:=a_M (a_c aL.out.1 aN) (a_c aL.out.2 aN);clear aN aB aL;go_wp2_with fail
         refine (aC w3).mono ?_;rintro e w4 ⟨rfl,aI⟩;have af:=a_M (a_c aK.out.1 aI) (a_c aK.out.2 aI);clear aI aC aK;obtain ⟨a0,a1,_,_⟩:=XA.out.up af.out.2;obtain ⟨b0,b1,_,_⟩:=XB.out.up af.out.2;have a9:=a_a a0;have b9:=a_a b0;have aa:=a_d aF af.out.1;have ao:=a_a aa;have ab:=a_d aM af.out.1;have am:=a_a ab;have R:=a_d aH af.out.1;have ai:=a_a R;have U:=a_d aG af.out.1;have aj:=a_a U;go_wp2_with fail
         refine a_P (fun w5 aV=>?_);have L:Hid (Below w.heap.size w w5/\Below W0.heap.size W0 w5):=by rw [aV];exact af.out
         clear aV;clear a0 a1 b0 b1 a9 b9 aa ao ab am R ai U aj;obtain ⟨a0,a1,_,_⟩:=XA.out.up L.out.2;obtain ⟨b0,b1,_,_⟩:=XB.out.up L.out.2;have a9:=a_a a0;have b9:=a_a b0;have aa:=a_d aF L.out.1;have ao:=a_a aa;have ab:=a_d aM L.out.1;have am:=a_a ab;have R:=a_d aH L.out.1;have ai:=a_a R;have U:=a_d aG L.out.1;have aj:=a_a U;go_wp2_with fail
         refine d_1 (.cells #[.int .i64 0,.int .i64 0,.int .i64 0,.int .i64 0,.int .i64 0] 204) 15 16 83 10 (by kernel_rfl) rfl rfl (by kernel_rfl) rfl rfl rfl ?_;apply Exists.intro;refine ⟨?_,?_,?_⟩
         ·intro F hF;have hFc:=hF.cell;have hFf:=hF.frozen;simp only [List.take_succ_cons,List.take_zero,List.eraseIdx_cons_succ,List.eraseIdx_cons_zero]
          repeat (go_big_quiet_step (fail))
          refine wpQuiet_nil ?_;exact rfl
         ·intro W
          kernel_rfl
         intro W6 g8 hW hM;have Y0:=hM.cell (i:=0) rfl;have Y1:=hM.cell (i:=1) rfl;have Y2:=hM.cell (i:=2) rfl;have Y3:=hM.cell (i:=3) rfl;have Y4:=hM.cell (i:=4) rfl;have Z0:=hM.frozen 0;have Z1:=hM.frozen 1;have Z2:=hM.frozen 2;have Z3:=hM.frozen 3;have Z4:=hM.frozen 4;have bb:g8 < W6.heap.size:=hM.1;have aJ:w5.heap.size<=g8:=hM.2.1;have N5:=s_X W6 g8 (.int .i64 (I:Int)) (.int .i64 (V:Int)) (.int .i64 (J:Int)) (.int .i64 (D:Int)) (.int .i64 (stN:Int)) Y0 Y1 Y2 Y3 Y4;have N6:=b_2 (a_c L.out.1 hW) g8 (Nat.le_trans L.out.1.size aJ) (.int .i64 (I:Int)) (.int .i64 (V:Int)) (.int .i64 (J:Int)) (.int .i64 (D:Int)) (.int .i64 (stN:Int));have N7:=b_2 (a_c L.out.2 hW) g8 (Nat.le_trans L.out.2.size aJ) (.int .i64 (I:Int)) (.int .i64 (V:Int)) (.int .i64 (J:Int)) (.int .i64 (D:Int)) (.int .i64 (stN:Int));simp only [List.drop_succ_cons,List.drop_zero];unfold d_F;clear hM hW a0 a1 b0 b1 a9 b9 aa ao ab am R ai U aj aJ;go_wp2_with fail
         refine a_P (fun w7 a4=>?_);rw [<- a4] at N5 N6 N7;clear a4 Y0 Y1 Y2 Y3 Y4 Z0 Z1 Z2 Z3 Z4 bb;have M:Hid (Below w.heap.size w w7/\Below W0.heap.size W0 w7):=⟨N6,N7⟩
         have X7:Hid (SlC w7 g8 I V J D stN):=N5;clear N5 N6 N7;obtain ⟨a0,a1,_,_⟩:=XA.out.up M.out.2;obtain ⟨b0,b1,_,_⟩:=XB.out.up M.out.2;have a9:=a_a a0;have b9:=a_a b0;have aa:=a_d aF M.out.1;have ao:=a_a aa;have ab:=a_d aM M.out.1;have am:=a_a ab;have R:=a_d aH M.out.1;have ai:=a_a R;have U:=a_d aG M.out.1;have aj:=a_a U;obtain ⟨z0,z1,z2,z3,z4⟩:=X7.out;have zl:=a_a z0;refine j_r 7 83 (by kernel_rfl) rfl rfl (by kernel_rfl) ?_;apply Exists.intro;refine ⟨?_,?_⟩
         ·intro F hF;have hFc:=hF.cell;have hFf:=hF.frozen;simp only [List.take_succ_cons,List.take_zero,List.eraseIdx_cons_succ,List.eraseIdx_cons_zero]
          repeat (go_big_quiet_step (first|(go_at_call 139;with_reducible exact hF.call (a5 _))))
          refine wpQuiet_nil ?_;exact rfl
         intro w8 az;simp only [List.drop_succ_cons,List.drop_zero];have aA:=a_M (a_c M.out.1 az) (a_c M.out.2 az);have X8:Hid (SlC w8 g8 I V J D stN):=X7.out.up az;clear az a0 a1 b0 b1 a9 b9 aa ao ab am R ai U aj z0 z1 z2 z3 z4 zl X7 M a5;obtain ⟨a0,a1,_,_⟩:=XA.out.up aA.out.2;obtain ⟨b0,b1,_,_⟩:=XB.out.up aA.out.2;have a9:=a_a a0;have b9:=a_a b0;obtain ⟨z0,z1,z2,z3,z4⟩:=X8.out;have zl:=a_a z0;go_wp2_with fail
         generalize aO:World.alloc _ _=W9;have ay:Below w8.heap.size w8 W9:=by rw [<- aO];exact a_b w8 _
         have aT:Nums .i64 W9 (.slice (some ⟨w8.heap.size,0,none⟩) 3 3) [(J:Int),(I:Int),(D:Int)]:=by rw [<- aO];exact a_3 (k:=.i64) w8 [(J:Int),(I:Int),(D:Int)] 3 (0,0) rfl
         have ae:=a_M (a_c aA.out.1 ay) (a_c aA.out.2 ay);refine (HG.out g8 _ _ _ W9 ae.out.1 aT (X8.out.up ay) (XA.out.up ae.out.2).2.1 (XB.out.up ae.out.2).2.1).mono ?_;rintro e aY ⟨bj,rfl,⟨bh,bk,rfl,aw,au⟩,av⟩;obtain ⟨ax,ap,ad,rfl,_⟩:=aw.nums.lst;obtain ⟨aq,ak,ac,rfl,_⟩:=au.nums.lst;have aD:=a_M (a_c ae.out.1 av) (a_c ae.out.2 av);have xr:=XR.out.up aD.out.2;have hz:=a_a XR.out.1;have bp:=ae.out.2.size;have HF:Hid (TRes (set2 aY (w.heap.size+1+1) (.slice ax ap ad) (.slice aq ak ac)) w.heap.size (.agg #[.slice ax ap ad,.slice aq ak ac]) DD VV/\Below w.heap.size w (set2 aY (w.heap.size+1+1) (.slice ax ap ad) (.slice aq ak ac))):=⟨(TRes.set aw au (by omega)).low (by have:=ae.out.1.size;omega),a_j aD.out.1 _ (by omega) _ _⟩
         have cf:=xr.set (.slice ax ap ad) (.slice aq ak ac);obtain ⟨r0,r1,r2,r3⟩:=xr;obtain ⟨y0,y1,_,_⟩:=cf;have r9:=a_a r0;clear aw au av aT ay aO a0 a1 b0 b1 a9 b9 z0 z1 z2 z3 z4 zl HG;go_wp2;exact bodyPost_ret (v:=.tuple #[.agg #[.slice ax ap ad,.slice aq ak ac],.int .i64 EE]) (by simp [results,Tryz.results116,go_sem,y0,y1]) rfl ⟨_,rfl,HF.out⟩
        ·obtain ⟨SX,bd⟩:∃ S,a_L V D stN=S:=⟨_,rfl⟩
         rw [bd] at hS;obtain ⟨O,e2,e3⟩:=e_W hA (fun h=>hS (by have:=h.2.2.2;simp at this;omega));rw [O] at H;cases H
       ·obtain ⟨O,e2,e3⟩:=e_W hA (fun h=>hw (by have:=h.2.2.1;simp at this;omega));rw [O] at H;cases H
      ·obtain ⟨O,e2,e3⟩:=e_W hA (fun h=>aQ (by rw [<- ag.out.1];exact h.2.1));rw [O] at H;cases H
     ·obtain ⟨O,e2,e3⟩:=e_W hA (fun h=>hn (by rw [<- HD.out.1];exact h.1));rw [O] at H;cases H
    ·rw [decide_eq_false hl] at aC;obtain ⟨O,e2,e3⟩:=j_N (d:=d) (x:=x) (d':=d') (y:=y) (st:=st) (lg:=lg) (fun h=>hl h.2.2.2);rw [O] at H;cases H
   ·rw [decide_eq_false hs] at aB;obtain ⟨O,e2,e3⟩:=j_N (d:=d) (x:=x) (d':=d') (y:=y) (st:=st) (lg:=lg) (fun h=>hs h.2.2.1);rw [O] at H;cases H
  ·rw [decide_eq_false hq] at cB;obtain ⟨O,e2,e3⟩:=j_N (d:=d) (x:=x) (d':=d') (y:=y) (st:=st) (lg:=lg) (fun h=>hq h.2.1);rw [O] at H;cases H
 ·rw [decide_eq_false hp] at cA;obtain ⟨O,e2,e3⟩:=j_N (d:=d) (x:=x) (d':=d') (y:=y) (st:=st) (lg:=lg) (fun h=>hp h.1);rw [O] at H;cases H
end Go.Proofs.YtjlofobnmjompaaGreatDoor.Wd
