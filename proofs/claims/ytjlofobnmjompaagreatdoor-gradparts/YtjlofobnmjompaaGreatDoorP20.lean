/- Of nodes that were reckoned of those ahe -/
import Derived.Test.YtjlofobnmjompaaGreatDoorP19
set_option linter.unusedVariables false
set_option linter.unusedSimpArgs false
set_option maxHeartbeats 16000000
set_option maxRecDepth 16000
namespace Go.Proofs.YtjlofobnmjompaaGreatDoor.Wd
open Go.RowKit Fx
/-- A node's Op, its number, the two that it is of, a gradient of it. -/
def OkP (op K:Int) (a b g:Ten):Prop:=b_d a/\b_d g/\(d_A op->b_d b)/\rkE op a.1 a.2 b.1 b.2 K=0/\g.1=rkD op a.1 a.2 b.1 b.2 K
theorem j_2 {d x d':List Int} (h:h_2 d x d'):c_0 d x d'=0:=(if_pos h.1).trans (if_pos h.2)
/-- Ops 2, 3, 4. -/
theorem e_C {a b g:Ten} (U:b_d a) (hb:b_d b) (hE:b_C a.1 a.2 b.1 b.2=0) (D:b_d g) (eg:g.1=b_J a.1 a.2 b.1 b.2):
  (c_0 g.1 g.2 a.1=0/\c_0 g.1 g.2 b.1=0)/\(c_0 (d_g g (-4294967296)).1 (d_g g (-4294967296)).2 b.1=0/\e_I g.1 g.2=0)
  /\ (b_C g.1 g.2 b.1 b.2=0/\c_0 (i_h g b).1 (i_h g b).2 a.1=0/\b_d (i_h g b))/\b_C g.1 g.2 a.1 a.2=0/\c_0 (i_h g a).1 (i_h g a).2 b.1=0/\b_d (i_h g a):=by
 have hp:isP a.1 a.2/\isP b.1 b.2:=⟨U.1,hb.1⟩
 have hj:b_x a.1 b.1=0:=(if_pos hp).symm.trans hE;obtain ⟨A,B,J,h⟩:=n_V hp hj;have I:g.1=itl J:=eg.trans (h.E (op:=fun a b=>a)).2.1;have pg:∀ t:Ten,b_d t->t.1=g.1->isP (itl J) t.2:=fun t V O=>by rw [<- I,<- O];exact V.1
 have M:∀ t:Ten,b_d t->t.1=g.1->c_0 t.1 t.2 a.1=0/\c_0 t.1 t.2 b.1=0:=fun t V O=>by
  have hf:=g_n h (pg t V O);rw [<- I,<- O] at hf;exact ⟨j_2 hf.1,j_2 hf.2⟩
 have me:∀ (s:Ten) (c:List Nat),b_d s->s.1=itl c->goodN c->b_X c J->joinN c J=J->b_C g.1 g.2 s.1 s.2=0:=fun s c R ec gc fc jc=>by
  have f2:b_X J c:=fun i H L=>by
   have:=fc i H (by omega);rcases this with h|h|h
   ·exact .inl h.symm
   ·exact .inr (.inr h)
   ·exact .inr (.inl h)
  have j2:joinN J c=J:=by rw [b_0];exact jc
  obtain ⟨p1,p2⟩:=b_u h.gJ gc f2 (by rw [j2];exact h.gJ);exact (if_pos ⟨D.1,R.1⟩).trans (by rw [I,ec];exact p2)
 have H:=o_x D hb I h.db h.gJ h.gb h.fb h.jb;have L:=o_x D U I h.da h.gJ h.ga h.fa h.ja;have R:=e_X D (-4294967296);exact ⟨M g D rfl,⟨(M _ R.1 R.2).2,if_pos D.1⟩,⟨me b B hb h.db h.gb h.fb h.jb,(M _ H.1 H.2).1,H.1⟩,me a A U h.da h.ga h.fa h.ja,(M _ L.1 L.2).2,L.1⟩
/-- Op 12. -/
theorem g_o {k:Int} {a b g:Ten} (ha:b_d a) (hb:b_d b) (D:rwE a.1 a.2 b.1 b.2 k=0) (hg:b_d g) (eg:g.1=rwD a.1 a.2 b.1 b.2 k):
  (biE g.1 g.2 b.1 b.2 k (a.1.getD 1 0)=0/\bkE g.1 g.2 a.1 a.2 k (b.1.getD 2 0)=0)/\a.1.length=2/\b.1.length=3:=by
 have J:rwA a.1 a.2 b.1 b.2 k/\rwS a.1 b.1/\goodN (ntl (rwO a.1 b.1 k)):=by
  unfold rwE at D;by_cases M:rwA a.1 a.2 b.1 b.2 k
  ·rw [if_pos M] at D;by_cases hm:rwS a.1 b.1
   ·rw [if_pos hm] at D;unfold f_1 at D;by_cases hq:goodN (ntl (rwO a.1 b.1 k))
    ·exact ⟨M,hm,hq⟩
    ·rw [if_neg hq] at D;cases D
   ·rw [if_neg hm] at D;cases D
  ·rw [if_neg M] at D;cases D
 obtain ⟨I,H,hG⟩:=J;have V:g.1=rwO a.1 b.1 k:=eg.trans ((if_pos ⟨I,H⟩).trans (if_pos hG));obtain ⟨st,rfl⟩:∃ q:Nat,k=q:=⟨k.toNat,by have:=I.2.2;omega⟩
 obtain ⟨aD,aX⟩:=a;obtain ⟨bD,bX⟩:=b;obtain ⟨gD,gX⟩:=g;obtain ⟨R,L,rfl,aa,k0,k1,k2⟩:=a_Y ha.1 H.1;obtain ⟨O,R',wd,rfl,ab,l0,l1,l2,l3⟩:=c_d hb.1 H.2.1;obtain rfl:R=R':=by have:=H.2.2.1;simp at this;omega
 have hw:wd<=L:=by have:=H.2.2.2;simp at this;omega
 obtain ⟨S,E⟩:∃ S,a_M L wd st=S:=⟨_,rfl⟩
 have U:gD = [(O:Int),(S:Int)]:=V.trans (by rw [<- E];rfl);subst U;have z:=c_L k2 k0 k1;have zw:wd<=4096:=by omega
 have b1:biA [(O:Int),(S:Int)] gX [(O:Int),(R:Int),(wd:Int)] bX st L:=⟨hg.1,hb.1,I.2.2,by omega,by omega⟩
 have b2:biA [(O:Int),(S:Int)] gX [(R:Int),(L:Int)] aX st wd:=⟨hg.1,ha.1,I.2.2,by omega,by omega⟩
 refine ⟨⟨(i_D b1 hw E).1.trans (if_pos ha.1.1),(i_E b2 hw E).1.trans (if_pos hb.1.1)⟩,rfl,rfl⟩
/-- Op 11, 13, 14, 7, 8: what a node of that kind says of the one that it is of. -/
theorem m_F {k:Int} {a g:Ten} (H:b_d a) (D:g_Z k a.1 a.2=0) (J:b_d g) (I:g.1=k_I k a.1 a.2):q_w k a.1 a.2 g.1 g.2=0:=by
 have E:(1<=k/\k<=5)/\isP a.1 a.2:=by
  unfold g_Z at D;by_cases h:(1<=k/\k<=5)/\isP a.1 a.2
  ·exact h
  ·rw [if_neg h] at D;cases D
 have e:g.1=a.1:=I.trans (if_pos E);exact (if_pos ⟨E.1,H.1,J.1⟩).trans (if_pos e.symm)
theorem q_D {a g:Ten} (H:b_d a) (D:j_A a.1 a.2 [(a.2.length:Int)]=0) (J:b_d g) (M:g.1=j_B a.1 a.2 [(a.2.length:Int)]):j_A g.1 g.2 a.1=0:=by
 have E:(isP a.1 a.2/\goodN (ntl [(a.2.length:Int)]))/\a_e (ntl [(a.2.length:Int)])=a.2.length:=by
  unfold j_A at D;by_cases h:isP a.1 a.2/\goodN (ntl [(a.2.length:Int)])
  ·rw [if_pos h] at D;by_cases I:a_e (ntl [(a.2.length:Int)])=a.2.length
   ·exact ⟨h,I⟩
   ·rw [if_neg I] at D;cases D
  ·rw [if_neg h] at D;cases D
 have e:g.1 = [(a.2.length:Int)]:=M.trans (if_pos E);have L:g.2.length=a.2.length:=by rw [J.1.2,e];exact E.2
 exact (if_pos ⟨J.1,H.1.1⟩).trans (if_pos (by rw [L];exact H.1.2.symm))
/-- Op 8: a side of one spreads over the whole. -/
theorem e_f:∀ (d:List Nat) (s:Nat),s < d.length->a_e (d.set s 1)=a_e (b_l d s)
 | b :: bs,0,_=>by simp [b_l,a_e]
 | b :: bs,s+1,h=>by
  have D:=e_f bs s (by simpa using h);show b*a_e (bs.set s 1)=b*a_e (b_l bs s);rw [D]
 | [],s,h=>by simp at h
theorem m_G {d:List Nat} (D:goodN d) (s:Nat) (h:s < d.length):goodN (d.set s 1):=by
 refine ⟨by rw [List.length_set];exact D.1,fun x E=>?_,?_⟩
 ·rcases List.mem_or_eq_of_mem_set E with h|h
  ·exact D.2.1 x h
  ·omega
 ·rw [e_f d s h];exact (d_a D s h).2.2
theorem j_3 (d:List Nat) (s i:Nat) (h:s < d.length) (E:1<=i):a_V (d.set s 1) i=if i=d.length - s then 1 else a_V d i:=by
 unfold a_V;rw [List.length_set];by_cases D:i<=d.length
 ·rw [if_pos D,if_pos D,List.getD_eq_getElem?_getD,List.getD_eq_getElem?_getD,List.getElem?_set];by_cases e:i=d.length - s
  ·rw [if_pos e,if_pos (by omega),if_pos (by omega)];rfl
  ·rw [if_neg e,if_neg (by omega)]
 ·rw [if_neg D,if_neg D]
  split <;> rfl
theorem m_H {d:List Nat} (E:goodN d) (s:Nat) (h:s < d.length):b_X (d.set s 1) d/\joinN (d.set s 1) d=d:=by
 constructor
 ·intro i D _;rw [j_3 d s i h D]
  split
  ·exact .inr (.inl rfl)
  ·exact .inl rfl
 ·refine e_O (by rw [a_6,List.length_set,Nat.max_self]) fun i D _=>?_;rw [b_q _ _ _ D,j_3 d s i h D];have:=c_x E.2.1 i
  split <;> omega
theorem o_y (d:List Nat) (a:Nat) (h:∀ x,x∈d->1<=x) (D:a < a_e d):frN d d a=a:=by
 rw [<- l_h d d a rfl,e_9 (c_j d a h D),d_o d a h D]
theorem m_I (q T Q r:Nat) (D:0 < Q):(q*(T*Q)+r) / Q=q*T+r / Q:=by
 rw [<- Nat.mul_assoc,Nat.add_comm,Nat.add_mul_div_right _ _ D,Nat.add_comm]
theorem m_J:∀ (d:List Nat) (s i:Nat),(∀ x,x∈d->1<=x)->s < d.length->i < a_e d->frN (d.set s 1) d i=i / (d.getD s 0*a_e (d.drop (s+1)))*a_e (d.drop (s+1))+i % a_e (d.drop (s+1))
 | [],s,i,_,h,_=>by simp at h
 | b :: bs,0,i,hp,_,hi=>by
  have J:1<=a_e bs:=a_B fun y I=>hp y (List.mem_cons_of_mem _ I);have D:i < b*a_e bs:=hi;show (if 1=1 then 0 else i / a_e bs)*a_e bs+frN bs bs (i % a_e bs)=i / (b*a_e bs)*a_e bs+i % a_e bs;rw [if_pos rfl,o_y bs _ (fun y I=>hp y (List.mem_cons_of_mem _ I)) (Nat.mod_lt _ J),Nat.div_eq_of_lt D]
 | b :: bs,s+1,i,hp,hs,hi=>by
  have H:∀ y,y∈bs->1<=y:=fun y I=>hp y (List.mem_cons_of_mem _ I);have J:1<=a_e bs:=a_B H;have E:s < bs.length:=by simpa using hs
  have V:=m_J bs s (i % a_e bs) H E (Nat.mod_lt _ J);have D:i < b*a_e bs:=hi
  have U:(if b=1 then 0 else i / a_e bs)=i / a_e bs:=by
   by_cases hb:b=1
   ·rw [if_pos hb];subst hb;rw [Nat.one_mul] at D;exact (Nat.div_eq_of_lt D).symm
   ·rw [if_neg hb]
  show (if b=1 then 0 else i / a_e bs)*a_e (bs.set s 1)+frN (bs.set s 1) bs (i % a_e bs)=i / (bs.getD s 0*a_e (bs.drop (s+1)))*a_e (bs.drop (s+1))+i % a_e (bs.drop (s+1));rw [U,V,e_f bs s E];have O:a_e (b_l bs s)=a_e (bs.take s)*a_e (bs.drop (s+1)):=by rw [b_l,a_D]
  have L:a_e bs=a_e (bs.take s)*(bs.getD s 0*a_e (bs.drop (s+1))):=by
   rw [<- d_x bs s E,O,Nat.mul_assoc,Nat.mul_comm (a_e (bs.drop (s+1)))]
  rw [O];generalize a_e (bs.take s)=T at *;generalize a_e (bs.drop (s+1))=P at *;generalize bs.getD s 0=c at *;generalize a_e bs=M at *
  have hQ:0 < c*P:=by
   rcases Nat.eq_zero_or_pos (c*P) with h|h
   ·rw [h,Nat.mul_zero] at L;omega
   ·exact h
  have hm:i % M % P=i % P:=Nat.mod_mod_of_dvd i ⟨T*c,by rw [L,<- Nat.mul_assoc,Nat.mul_comm]⟩
  have R:i / (c*P)=i / M*T+i % M / (c*P):=by
   have:=m_I (i / M) T (c*P) (i % M) hQ;rw [<- L,Nat.mul_comm (i / M) M,Nat.div_add_mod] at this;exact this
  rw [hm,R,Nat.add_mul,Nat.mul_assoc,Nat.add_assoc]
/-- What a gradient of a sum along a side is spread by. -/
theorem o_z {a g:Ten} {k:Int} (ha:b_d a) (hE:smE a.1 a.2 k=0) (M:b_d g) (eg:g.1=smD a.1 a.2 k):
  ∃ s:Nat,k=(s:Int)/\s < a.1.length/\(j_A g.1 g.2 (a.1.set s 1)=0/\j_B g.1 g.2 (a.1.set s 1)=a.1.set s 1/\k_6 g.1 g.2 (a.1.set s 1)=g.2)/\c_r (a.1.set s 1) g.2
   /\ b_C (a.1.set s 1) g.2 a.1 (List.replicate (a_e (ntl a.1)) 0)=0/\b_J (a.1.set s 1) g.2 a.1 (List.replicate (a_e (ntl a.1)) 0)=a.1/\b_U (fun a b=>Fx.hold (a+b)) (a.1.set s 1) g.2 a.1 (List.replicate (a_e (ntl a.1)) 0)=q_z (ntl a.1) k.toNat g.2:=by
 have hp:smP a.1 a.2 k:=by
  unfold smE at hE;by_cases h:smP a.1 a.2 k
  ·exact h
  ·rw [if_neg h] at hE;cases hE
 have J:=eg.trans (if_pos hp);obtain ⟨aD,aX⟩:=a;obtain ⟨gD,D⟩:=g;obtain ⟨A,H,rfl⟩:=b_m ha.1.1;have h1:0<=k:=hp.2.1;have h2:k < ((itl A).length:Int):=hp.2.2;obtain ⟨s,rfl⟩:∃ s:Nat,k=(s:Int):=⟨k.toNat,by omega⟩
 rw [a_v] at h2;have O:s < A.length:=by omega
 have aa:gD=itl (b_l A s):=by rw [a_p] at J;exact J
 subst aa
 have L:D.length=a_e (A.set s 1):=by
  have:=M.1.2;rw [a_p] at this;rw [this,e_f A s O]
 have I:(itl A).set s 1=itl (A.set s 1):=by
  unfold itl;rw [List.map_set];rfl
 have gT:=m_G H s O;have R:isP (itl (A.set s 1)) D:=f_D gT L;have U:(isP (itl (b_l A s)) D/\goodN (ntl (itl (A.set s 1))))/\a_e (ntl (itl (A.set s 1)))=D.length:=⟨⟨M.1,by rw [a_p];exact gT⟩,by rw [a_p,L]⟩
 obtain ⟨hf,hj⟩:=m_H H s O;obtain ⟨V,p2⟩:=b_u gT H hf (by rw [hj];exact H);rw [hj] at V
 have pz:isP (itl A) (List.replicate (a_e (ntl (itl A))) 0):=by
  rw [a_p];exact f_D H (by simp)
 refine ⟨s,rfl,by rw [a_v];exact O,?_⟩;show (j_A _ _ ((itl A).set s 1)=0/\j_B _ _ ((itl A).set s 1)=(itl A).set s 1/\k_6 _ _ ((itl A).set s 1)=D)/\c_r ((itl A).set s 1) D/\b_C ((itl A).set s 1) D (itl A) (List.replicate (a_e (ntl (itl A))) 0)=0/\b_J ((itl A).set s 1) D (itl A) (List.replicate (a_e (ntl (itl A))) 0)=itl A/\b_U _ ((itl A).set s 1) D (itl A) (List.replicate (a_e (ntl (itl A))) 0)=q_z (ntl (itl A)) ((s:Int).toNat) D;rw [I];refine ⟨⟨(if_pos U.1).trans (if_pos U.2),if_pos U,if_pos U⟩,f_U R M.2.2,(if_pos ⟨R,pz⟩).trans p2,(if_pos ⟨R,pz⟩).trans V,(if_pos ⟨⟨R,pz⟩,p2⟩).trans ?_⟩;rw [V];simp only [a_p];unfold q_z;refine List.map_congr_left fun i hi=>?_;have E:=List.mem_range.1 hi
 have hz:(List.replicate (a_e A) (0:Int)).getD (b_R A A i) 0=0:=by
  rw [l_u H i E,List.getD_eq_getElem?_getD,List.getElem?_replicate,if_pos E];rfl
 rw [hz,Int.add_zero,Fx.hold_in (d_d M.2.2 _).1 (d_d M.2.2 _).2];have hl:(A.set s 1).length=A.length:=List.length_set;rw [j_f _ _ _ (by rw [hl];exact Nat.le_refl _),l_e,hl,Nat.sub_self,List.replicate_zero,List.nil_append,m_J A s i H.2.1 O E];rfl
/-- Op 10: a number and noughts. -/
theorem m_K (v:Int) (n:Nat) (h:1<=n):b_v ((List.replicate n 0).set 0 v)=v:=by
 unfold b_v;rw [List.length_set,List.length_replicate]
 have D:∀ m,m+1<=n->b_j (fun k=>((List.replicate n 0).set 0 v).getD k 0) (m+1)=v:=by
  intro m
  induction m with
  | zero=>
   intro _;rw [b_j,b_j];obtain ⟨q,rfl⟩:∃ q,n=q+1:=⟨n - 1,by omega⟩
   simp [List.replicate_succ]
  | succ m ih=>
   intro E;rw [b_j,ih (by omega),List.getD_eq_getElem?_getD,List.getElem?_set,if_neg (by omega),List.getElem?_replicate,if_pos (by omega)];simp
 obtain ⟨q,rfl⟩:∃ q,n=q+1:=⟨n - 1,by omega⟩
 exact D q (Nat.le_refl _)
theorem o_A (v:Int) (n:Nat) (h:1<=n):i_r ((List.replicate n 0).set 0 v)=Fx.hold (rqI v (n:Int)):=by
 unfold i_r;rw [m_K v n h,List.length_set,List.length_replicate]
/-- Op 13: places. -/
theorem q_E {a g:Ten} {k:Int} (J:b_d a) (E:plE a.1 a.2 k=0) (hg:b_d g) (eg:g.1=plD a.1 a.2 k):
  (plP a.1 a.2 k).length=g.2.length/\(∀ i,i < (plP a.1 a.2 k).length->0<=(plP a.1 a.2 k).getD i 0/\(plP a.1 a.2 k).getD i 0 < (a_e (ntl a.1):Int))/\RI (plP a.1 a.2 k):=by
 have I:isP a.1 a.2/\a.1.length=2/\plW a.1 k:=by
  unfold plE at E;rw [if_pos J.1] at E;by_cases h:a.1.length=2
  ·rw [if_pos h] at E;by_cases O:plW a.1 k
   ·exact ⟨J.1,h,O⟩
   ·rw [if_neg O] at E;cases E
  ·rw [if_neg h] at E;cases E
 have aa:=eg.trans (if_pos I);have eP:plP a.1 a.2 k=e_y (a.1.getD 0 0).toNat (a.1.getD 1 0).toNat ((a.1.getD 1 0).toNat / k.toNat) k.toNat a.2:=if_pos I;obtain ⟨aD,D⟩:=a;obtain ⟨gD,gX⟩:=g;obtain ⟨R,L,rfl,ac,k0,k1,k2⟩:=a_Y J.1 I.2.1;have V:=I.2.2;obtain ⟨wd,rfl⟩:∃ q:Nat,k=q:=⟨k.toNat,by have:=V.1;omega⟩
 have h1:1<=wd:=by have:=V.1;omega
 have O:wd<=L:=by have:=V.2;simp at this;omega
 have ab:plP [(R:Int),(L:Int)] D wd=e_y R L (L / wd) wd D:=eP;have U:gD = [(R:Int),((L / wd:Nat):Int)]:=aa;subst U;have hn:L / wd*wd<=L:=Nat.div_mul_le_self L wd;have hl:(e_y R L (L / wd) wd D).length=R*(L / wd):=by simp [e_y]
 have H:a_e (ntl [(R:Int),(L:Int)])=R*L:=c_k R L;show (plP [(R:Int),(L:Int)] D wd).length=gX.length/\(∀ i,i < (plP [(R:Int),(L:Int)] D wd).length->0<=(plP [(R:Int),(L:Int)] D wd).getD i 0/\(plP [(R:Int),(L:Int)] D wd).getD i 0 < (a_e (ntl [(R:Int),(L:Int)]):Int))/\RI (plP [(R:Int),(L:Int)] D wd);rw [ab,H]
 have hb:∀ i,i < R*(L / wd)->0<=(e_y R L (L / wd) wd D).getD i 0/\(e_y R L (L / wd) wd D).getD i 0 < ((R*L:Nat):Int):=fun i M=>by
  rw [j_Q _ _ _ _ _ _ M];have:=(i_z (l:=L) D M h1 hn).2;omega
 refine ⟨?_,fun i M=>hb i (by rw [<- hl];exact M),?_⟩
 ·rw [hl,hg.1.2];exact (c_k R (L / wd)).symm
 ·have ad:R*L<=4096:=by
   have h:=J.1.1.2.2;have e:a_e (ntl [(R:Int),(L:Int)])=R*L:=H;have h':a_e (ntl [(R:Int),(L:Int)])<=4096:=h;rw [e] at h';exact h'
  unfold e_y;refine c_z fun q hq=>?_;have:=(i_z (l:=L) D (List.mem_range.1 hq) h1 hn).2;unfold InR;omega
/-- What a node says of the two that it is of. -/
theorem OkP.of {ns:List Nd} (L:NodesG ns) (hV:NodesV ns) {i:Nat} {nd:Nd} (J:ns[i]?=some nd) (R:nd.op≠1) {g:Ten} (O:b_d g) (eg:g.1=nd.D):OkP nd.op nd.k (aOf ns nd) (bOf ns nd) g/\(2<=nd.op/\nd.op<=14)/\(0<=nd.a/\nd.a < (i:Int))/\(d_A nd.op->0<=nd.b/\nd.b < (i:Int))/\(¬ d_A nd.op->nd.b = -1):=by
 have hl:i < ns.length:=(List.getElem?_eq_some_iff.1 J).1;rcases hV i nd J with h|⟨V,I,hb,E,M,U⟩
 ·exact absurd h.1 R
 refine ⟨⟨L.at I.1 (by omega),O,fun H=>?_,M,eg.trans U⟩,V,I,hb,E⟩;have:=hb H;show c_r (dD ns nd.op nd.b) (dX ns nd.op nd.b);unfold dD dX;rw [if_pos H,if_pos H];exact L.at this.1 (by omega)
theorem e_g (p p2 p3:Option Addr) (n c M c2 n3 c3:Nat) (d x d':List Int) (hd:RI d) (hx:RI x) (ai:RI d') (J:c_0 d x d'=0) (w:World) (h1:Nums .i64 w (.slice p n c) d) (h2:Nums .i64 w (.slice p2 M c2) x) (h3:Nums .i64 w (.slice p3 n3 c3) d'):
  Calls Tryz.prog 103 #[.agg #[.slice p n c,.slice p2 M c2],.slice p3 n3 c3] w fun e w'=>∃ v',e = .returned (.tuple #[v',.int .i64 (c_0 d x d')])/\TRes w' w.heap.size v' (h_3 d x d') (h_4 d x d')/\Below w.heap.size w w':=by
 have cA:=fun W (U:Below w.heap.size w W)=>a_C _ _ d x hd W (h1.up U) (h2.up U);have cB:=fun W (U:Below w.heap.size w W)=>b_Y _ d' ai W (h3.up U);have cZ:=fun W (U:Below w.heap.size w W)=>size_any _ d' ai W (h3.up U);have cJ:=fun W (U:Below w.heap.size w W)=>g_z _ _ d' d ai hd W (h3.up U) (h1.up U);have cS:∀ W v',Below w.heap.size w W->Nums .i64 W v' (b_S d' d)->Calls Tryz.prog 132 #[v',.slice p n c] W fun e w'=>e = .returned (.bool (decide (b_S d' d=d)))/\∃ m,w'=W.drewN m:=fun W v' U hv=>n_G _ _ _ d (by have:=l_o d' d;omega) W hv (h1.up U);have HN:Hid (Nums .i64 w (.slice p n c) d/\Nums .i64 w (.slice p2 M c2) x/\Nums .i64 w (.slice p3 n3 c3) d'):=⟨h1,h2,h3⟩
 obtain ⟨_,_,_,e4,HX⟩:=h2.lst;cases e4;by_cases hp:isP d x
 ·rw [decide_eq_true hp] at cA;by_cases L:goodN (ntl d')
  ·rw [decide_eq_true L] at cB;rw [b_1 L] at cZ;by_cases hf:b_x d' d=0/\b_S d' d=d
   ·obtain ⟨a,b,hU⟩:=q_v ⟨⟨hp,L⟩,hf⟩;obtain ⟨e1,e2,e3⟩:=hU.V ⟨⟨hp,L⟩,hf⟩;clear J;rw [e1,e2,e3];rw [decide_eq_true hf.2] at cS;rw [hf.1] at cJ;rw [hf.2] at cJ cS;rw [hU.db,a_p] at cZ;obtain ⟨S,eS⟩:∃ S,a_e b=S:=⟨_,rfl⟩
    obtain ⟨N,eN⟩:∃ N,a_e a=N:=⟨_,rfl⟩
    obtain ⟨D,eD⟩:∃ D,itl b=D:=⟨_,rfl⟩
    obtain ⟨V,eV⟩:∃ V,c_5 (fun a b=>Fx.hold (a+b)) (b_R b a) (fun i=>x.getD i 0) S N=V:=⟨_,rfl⟩
    have aN:M=N:=by rw [<- HX.out.1,hU.lx,eN]
    subst aN;have E:Hid (Under d x d' a b/\a_e b=S/\a_e a=M/\itl b=D/\RI x/\c_5 (fun a b=>Fx.hold (a+b)) (b_R b a) (fun i=>x.getD i 0) S M=V):=⟨hU,eS,eN,eD,hx,eV⟩
    have hS:1<=S/\S<=4096:=by rw [<- eS];exact ⟨hU.gb.pos,hU.gb.2.2⟩
    have aR:1<=(S:Int)/\(S:Int)<=4096:=by omega
    have hN:1<=M/\M<=4096:=by rw [<- eN];exact ⟨hU.ga.pos,hU.ga.2.2⟩
    have aT:1<=(M:Int)/\(M:Int)<=4096:=by omega
    rw [eS] at cZ ⊢;rw [eN,eD,eV];clear e1 e2 e3 hp L hf h1 h2 h3 hd hx ai eS eN eD eV hU;go_enter Tryz.func103,Tryz.ntmps103;go_wp2_with fail
    generalize ad:World.alloc _ _=W0;have aq:=b_W (w:=w) ad (by go_grown);have XA:Hid (Cel W0 w.heap.size (.slice p n c) (.slice p2 M c2)):=a_F ad (by simp [go_sem]);have XR:Hid (Cel W0 (w.heap.size+1) (.slice none 0 0) (.slice none 0 0)):=a_F ad (by simp [go_sem]);clear ad;refine (cA W0 aq.out).mono ?_;rintro e w1 ⟨rfl,ar⟩;have aa:=a_N (a_c aq.out ar) ar;clear ar;go_wp2_with fail
    refine (cB w1 aa.out.1).mono ?_;rintro e w2 ⟨rfl,rfl⟩;clear cA cB;obtain ⟨a0,a1,_,_⟩:=XA.out.up aa.out.2;go_wp2_with fail
    refine (cJ w2 aa.out.1).mono ?_;rintro e w3 ⟨vj,rfl,aA,av⟩;have ah:=a_N (a_c aa.out.1 av) (a_c aa.out.2 av);have cs:=cS w3 vj ah.out.1 aA.nums;clear av aA a0 a1 cS cJ;obtain ⟨a0,a1,_,_⟩:=XA.out.up ah.out.2;go_wp2_with fail
    refine cs.mono ?_;rintro e w4 ⟨rfl,m,aE⟩;have I:Hid (Below w.heap.size w w4/\Below W0.heap.size W0 w4):=by rw [aE];exact ⟨a_m ah.out.1 m,a_m ah.out.2 m⟩
    clear cs a0 a1 aE;go_wp2_with fail
    refine (cZ w4 I.out.1).mono ?_;rintro e w5 ⟨rfl,rfl⟩;clear cZ;obtain ⟨a0,a1,_,_⟩:=XA.out.up I.out.2;go_wp2_with (at_make;refine a_y k_w (by decide) _ rfl (.tmp 38) (.tmp 38) rfl .i64 .i64 S S S rfl rfl rfl rfl (by omega) w.heap.size w I.out.1.size I.out.1 ?_;intro w6 ag B6 aQ;clear aQ;have aP:=(XA.out.up (a_c I.out.2 B6));obtain ⟨a2,a3,_,_⟩:=aP)
    obtain ⟨g,L⟩:∃ g,w5.heap.size=g:=⟨_,rfl⟩
    have aj:=a_N (a_c I.out.1 B6) (a_c I.out.2 B6);rw [L] at ag ⊢;have hz:=a_a XR.out.1;have Hg:Hid (W0.heap.size<=g/\w.heap.size+1 < W0.heap.size/\g < w6.heap.size):=⟨by rw [<- L];exact I.out.2.size,hz,ag.out.size⟩
    have aI:=e_s _ _ b a E.out.1.gb E.out.1.ga (g_y E.out.1.jb) w6 (by rw [<- E.out.1.db];exact HN.out.2.2.up aj.out.1) (by rw [<- E.out.1.da];exact HN.out.1.up aj.out.1);refine aI.mono ?_;rintro e w7 ⟨vs,rfl,h7,ac⟩;obtain ⟨ps,ns,cs,rfl,aJ⟩:=h7.nums.lst;obtain rfl:ns=M:=by rw [<- aJ.out.1,a_v,d_N,E.out.2.2.1]
    have aC:Hid (OwnK .i64 3 w7 w6.heap.size (.slice ps ns cs) (itl (b_T b a))):=h7;have ao:=a_N (a_c aj.out.1 ac) (a_c aj.out.2 ac);have aK:Hid (OwnK .i64 23 w7 g (.slice (some ⟨g,0,none⟩) S S) (c_5 (fun a b=>Fx.hold (a+b)) (b_R b a) (fun i=>x.getD i 0) S 0)):=ag.out.up ac;have aD:Hid (Cel w7 w.heap.size (.slice p n c) (.slice p2 ns c2)/\Cel w7 (w.heap.size+1) (.slice none 0 0) (.slice none 0 0)):=⟨XA.out.up ao.out.2,XR.out.up ao.out.2⟩
    clear aI h7 ac aJ a0 a1 a2 a3 ag B6 L hz;go_wp2_with fail
    go_loopg [45] ns (fun gg i wr=>∃ (k:Nat),k<=ns/\gg=ns - k/\i = .int .i64 (k:Int)/\Hid (OwnK .i64 23 wr g (.slice (some ⟨g,0,none⟩) S S) (c_5 (fun a b=>Fx.hold (a+b)) (b_R b a) (fun i=>x.getD i 0) S k))/\Hid (Below w.heap.size w wr/\Stay g w7 wr))
    case atStart=>exact ⟨0,by omega,by omega,by first|rfl|simp,aK,ao.out.1,Stay.refl _ _⟩
    case round=>
     obtain ⟨k,hk,L,rfl,ab,H⟩:=hrel;obtain ⟨R1,aO⟩:∃ R1:World,R1=wr:=⟨_,rfl⟩
     subst aO;by_cases ae:k < ns
     ·have aS:(k:Int) < (ns:Int):=by omega
      obtain ⟨_,_,_,e4,aB⟩:=(aC.out.nums.stay H.out.2 (aC.out.off Hg.out.2.2)).lst;cases e4;obtain ⟨qa,oa,rfl,au⟩:=aB.out.2 k ae;have aw:k < a_e a:=by rw [E.out.2.2.1];exact ae
      rw [a_P,f_l E.out.1.gb E.out.1.ga E.out.1.fb E.out.1.jb k aw] at au;have ia:=g_x E.out.1.gb.2.1 E.out.1.ga.2.1 E.out.1.fb E.out.1.jb k aw;obtain ⟨i,ei⟩:∃ i,b_R b a k=i:=⟨_,rfl⟩
      rw [ei] at au ia;rw [E.out.2.1] at ia;have aU:(i:Int) < (S:Int):=by omega
      obtain ⟨qx,ox,rfl,aG⟩:=HX.out.2 k ae;have aF:=a_d aG H.out.1;have rx:=E.out.2.2.2.2.1.in k (by rw [HX.out.1];exact ae);obtain ⟨X,eX⟩:∃ X,x.getD k 0=X:=⟨_,rfl⟩
      rw [eX] at aF rx;obtain ⟨FK,O⟩:∃ FK,c_5 (fun a b=>Fx.hold (a+b)) (b_R b a) (fun i=>x.getD i 0) S k=FK:=⟨_,rfl⟩
      have ay:FK.length=S:=by rw [<- O,f_j]
      have ry:Fx.InR (FK.getD i 0):=by
       have ax:FK.getD i 0∈FK:=by
        rw [a_r FK i 0 (by omega)];exact List.getElem_mem _
       exact j_Z k _ (by rw [O];exact ax)
      obtain ⟨Y,eY⟩:∃ Y,FK.getD i 0=Y:=⟨_,rfl⟩
      rw [O] at ab;obtain ⟨R,aH⟩:=ab.out.cell ay i ia;rw [eY] at R ry;obtain ⟨Z,eZ⟩:∃ Z,Fx.hold (Y+X)=Z:=⟨_,rfl⟩
      have HZ:Hid (c_5 (fun a b=>Fx.hold (a+b)) (b_R b a) (fun i=>x.getD i 0) S (k+1)=FK.set i Z/\FK.length=S):=⟨by rw [c_5,O,ei,eY,eX,eZ],ay⟩
      have cz:∀ W,Calls Tryz.prog 118 #[.int .i64 Y,.int .i64 X] W fun e w'=>e = .returned (.int .i64 Z)/\w'=W:=fun W=>by rw [<- eZ];exact Fx.add_any Y X ry rx W
      have ak:w.heap.size≠g:=by have:=Hg.out;omega
      obtain ⟨a0,a1,_,_⟩:=aD.out.1.stay H.out.2 ak;have z0:=a_a a0;have z2:=a_a au;have z4:=a_a aF;have z6:=ab.out.size;clear eX eY eZ ei O aB ak aw aG rx ry;go_wp2_with fail
      refine j_r 13 68 (by kernel_rfl) rfl rfl (by kernel_rfl) ?_;apply Exists.intro;refine ⟨?_,?_⟩
      ·intro F hF;have hFc:=hF.cell;have hFf:=hF.frozen;simp only [List.take_succ_cons,List.take_zero,List.eraseIdx_cons_succ,List.eraseIdx_cons_zero]
       repeat (go_big_quiet_step (exact hF.same (cz _)))
       refine wpQuiet_nil ?_;exact rfl
      ·intro W1 af;simp only [List.drop_succ_cons,List.drop_zero];have ap:=ab.out.up af;clear R aH;obtain ⟨R,aH⟩:=ap.cell HZ.out.2 i ia
       have H5:Hid (OwnK .i64 23 (W1.setCell ⟨g,i,none⟩ (.int .i64 Z)) g (.slice (some ⟨g,0,none⟩) S S) (c_5 (fun a b=>Fx.hold (a+b)) (b_R b a) (fun i=>x.getD i 0) S (k+1))):=by
        have:=ap.store HZ.out.2 i Z;rw [HZ.out.1];exact this
       have aL:w.heap.size<=g:=by have:=Hg.out;omega
       have H6:Hid (Below w.heap.size w (W1.setCell ⟨g,i,none⟩ (.int .i64 Z))/\Stay g w7 (W1.setCell ⟨g,i,none⟩ (.int .i64 Z))):=⟨(a_c H.out.1 af).setCell (p:=⟨g,i,none⟩) aL _,(H.out.2.up af).set _ _⟩
       clear ap af cz z0 z2 z4 z6 a0 a1;go_wp2;go_roundg (ns - (k+1))
       case measure=>omega
       case rel=>exact ⟨k+1,by omega,rfl,by first|rfl|simp,H5,H6⟩
     ·obtain rfl:k=ns:=by omega
      have am:w.heap.size+1≠g:=by have:=Hg.out;omega
      have aM:Hid (Cel R1 (w.heap.size+1) (.slice none 0 0) (.slice none 0 0)):=aD.out.2.stay H.out.2 am
      have az:Hid (OwnK .i64 23 R1 g (.slice (some ⟨g,0,none⟩) S S) V):=by
       have:=ab.out;rw [E.out.2.2.2.2.2] at this;exact this
      have cc:=b_i _ d' (by rw [E.out.1.db,a_v];have:=E.out.1.gb.1;omega) R1 (HN.out.2.2.up H.out.1);rw [E.out.1.db,E.out.2.2.2.1] at cc;clear am;go_wp2_with fail
      refine cc.mono ?_;rintro e w8 ⟨v8,rfl,h8,an⟩;obtain ⟨p8,n8,c8,rfl,_⟩:=h8.nums.lst
      have HF:Hid (TRes (set2 w8 (w.heap.size+1) (.slice p8 n8 c8) (.slice (some ⟨g,0,none⟩) S S)) w.heap.size (.agg #[.slice p8 n8 c8,.slice (some ⟨g,0,none⟩) S S]) D V/\Below w.heap.size w (set2 w8 (w.heap.size+1) (.slice p8 n8 c8) (.slice (some ⟨g,0,none⟩) S S))):=by
       have hs:g<=R1.heap.size:=Nat.le_of_lt az.out.size;exact ⟨(TRes.set (h8.low (Nat.le_trans Hg.out.1 hs)) ((az.out.up an).low Hg.out.1) Hg.out.2.1).low aq.out.size,a_k (a_c H.out.1 an) _ (by omega) _ _⟩
      clear cc h8;have xr:=(aM.out.up an)
      have cf:=xr.set (.slice p8 n8 c8) (.slice (some ⟨g,0,none⟩) S S);obtain ⟨r0,r1,r2,r3⟩:=xr;obtain ⟨y0,y1,_,_⟩:=cf;go_wp2;exact bodyPost_ret (v:=.tuple #[.agg #[.slice p8 n8 c8,.slice (some ⟨g,0,none⟩) S S],.int .i64 0]) (by simp [results,Tryz.results103,go_sem,y0,y1]) rfl ⟨_,rfl,HF.out⟩
   ·have e1:c_0 d x d'=4:=by unfold c_0;rw [if_pos ⟨hp,L⟩,if_neg hf]
    have e2:h_3 d x d' = []:=if_neg fun h=>hf h.2;have e3:h_4 d x d' = []:=if_neg fun h=>hf h.2;rw [e1] at J;cases J
  ·rw [decide_eq_false L] at cB;have e1:c_0 d x d'=1:=if_neg fun h=>L h.2;have e2:h_3 d x d' = []:=if_neg fun h=>L h.1.2;have e3:h_4 d x d' = []:=if_neg fun h=>L h.1.2;rw [e1] at J;cases J
 ·rw [decide_eq_false hp] at cA;have e1:c_0 d x d'=1:=if_neg fun h=>hp h.1;have e2:h_3 d x d' = []:=if_neg fun h=>hp h.1.1;have e3:h_4 d x d' = []:=if_neg fun h=>hp h.1.1;rw [e1] at J;cases J
theorem f_N (p1 q1:Option Addr) (n1 c1 m1 e1:Nat) (p2 q2:Option Addr) (n2 c2 m2 e2:Nat) (p3:Option Addr) (n3 c3:Nat) (g o:Ten) (d:List Int) (hg:b_d g) (ho:b_d o) (hd:RI d) (hE:b_C g.1 g.2 o.1 o.2=0) (hm:b_d (i_h g o)) (hF:c_0 (i_h g o).1 (i_h g o).2 d=0) (w:World) (af:Nums .i64 w (.slice p1 n1 c1) g.1) (ab:Nums .i64 w (.slice q1 m1 e1) g.2) (ap:m1<=e1) (ac:Nums .i64 w (.slice p2 n2 c2) o.1) (ag:Nums .i64 w (.slice q2 m2 e2) o.2) (an:m2<=e2) (h3:Nums .i64 w (.slice p3 n3 c3) d):
  Calls Tryz.prog 104 #[(.agg #[.slice p1 n1 c1,.slice q1 m1 e1]),(.agg #[.slice p2 n2 c2,.slice q2 m2 e2]),.slice p3 n3 c3] w fun e I=>∃ L,e = .returned (.tuple #[L,.int .i64 0])/\TRes I w.heap.size L (c_i (i_h g o) d).1 (c_i (i_h g o) d).2/\Below w.heap.size w I:=by
 obtain ⟨M,eM⟩:∃ M,i_h g o=M:=⟨_,rfl⟩
 have cF:Hid (∀ W,Below w.heap.size w W->Calls Tryz.prog 120 #[(.agg #[.slice p1 n1 c1,.slice q1 m1 e1]),(.agg #[.slice p2 n2 c2,.slice q2 m2 e2])] W fun e I=>∃ L,e = .returned (.tuple #[L,.int .i64 0])/\TRes I W.heap.size L M.1 M.2/\Below W.heap.size W I):=fun W hW=>by
  have:=j_z p1 q1 p2 q2 n1 c1 m1 e1 n2 c2 m2 e2 g.1 g.2 o.1 o.2 hg.2.1 hg.2.2 ho.2.1 ho.2.2 W (af.up hW) (ab.up hW) (ac.up hW) (ag.up hW);rw [hE] at this;rw [<- eM];exact this
 rw [eM] at hm hF ⊢
 have cS:Hid (∀ (W:World) (p q:Option Addr) (n c m e:Nat),Below w.heap.size w W->Nums .i64 W (.slice p n c) M.1->Nums .i64 W (.slice q m e) M.2->m<=e->Calls Tryz.prog 103 #[.agg #[.slice p n c,.slice q m e],.slice p3 n3 c3] W fun e I=>∃ L,e = .returned (.tuple #[L,.int .i64 0])/\TRes I W.heap.size L (c_i M d).1 (c_i M d).2/\Below W.heap.size W I):=fun W p q n c m e hW a1 a2 a3=>by
  have:=e_g p q p3 n c m e n3 c3 M.1 M.2 d hm.2.1 hm.2.2 hd hF W a1 a2 (h3.up hW);rw [hF] at this;exact this
 clear eM hm hF hE af ab ap ac ag an h3 hg ho hd;obtain ⟨R,eR⟩:∃ R,c_i M d=R:=⟨_,rfl⟩
 rw [eR] at cS ⊢;clear eR;go_enter Tryz.func104,Tryz.ntmps104;go_wp2_with fail
 generalize ad:World.alloc _ _=W0;obtain ⟨aa,XA,XB,XR⟩:=m_w ad;clear ad;refine (cF.out W0 aa.out).mono ?_;rintro e w1 ⟨v1,rfl,⟨s1,t1,rfl,V,J⟩,O⟩;obtain ⟨pa,na,ca,rfl⟩:=V.form_;obtain ⟨pb,nb,cb,rfl⟩:=J.form_;have U:=a_N (a_c aa.out O) O;have E:Hid (Nums .i64 w1 (.slice pa na ca) M.1/\Nums .i64 w1 (.slice pb nb cb) M.2/\nb<=cb):=⟨V.nums,J.nums,J.cap⟩
 clear V J O cF;go_wp2_with fail
 generalize ah:World.alloc _ _=W2;have B2:Below w1.heap.size w1 W2:=by rw [<- ah];exact a_b w1 _
 have D:=a_N (a_c U.out.1 B2) (a_c U.out.2 B2);have H:Hid (Nums .i64 W2 (.slice pa na ca) M.1/\Nums .i64 W2 (.slice pb nb cb) M.2/\nb<=cb):=⟨E.out.1.up B2,E.out.2.1.up B2,E.out.2.2⟩
 clear ah B2 E U;refine (cS.out W2 pa pb na ca nb cb D.out.1 H.out.1 H.out.2.1 H.out.2.2).mono ?_;rintro e w3 ⟨v3,rfl,⟨s3,t3,rfl,V,J⟩,ae⟩;obtain ⟨ai,am,ak,rfl⟩:=V.form_;obtain ⟨aj,aq,ao,rfl⟩:=J.form_;clear cS H;obtain ⟨HF,r0,r1,r2,r3,z0,z1⟩:=h_m XR aa (a_c D.out.2 ae) (V.low D.out.2.size) (J.low D.out.2.size) (by omega);clear V J ae D;go_wp2;exact bodyPost_ret (v:=.tuple #[.agg #[.slice ai am ak,.slice aj aq ao],.int .i64 0]) (by simp [results,Tryz.results104,go_sem,z0,z1]) rfl ⟨_,rfl,HF.out⟩
theorem k_N (p1 q1:Option Addr) (n1 c1 m1 e1:Nat) (p3:Option Addr) (n3 c3:Nat) (g:Ten) (d:List Int) (hg:b_d g) (hd:RI d) (hE:e_I g.1 g.2=0) (hF:c_0 (d_g g (-4294967296)).1 (d_g g (-4294967296)).2 d=0) (w:World) (ad:Nums .i64 w (.slice p1 n1 c1) g.1) (ab:Nums .i64 w (.slice q1 m1 e1) g.2) (ak:m1<=e1) (h3:Nums .i64 w (.slice p3 n3 c3) d):
  Calls Tryz.prog 114 #[(.agg #[.slice p1 n1 c1,.slice q1 m1 e1]),.slice p3 n3 c3] w fun e O=>∃ L,e = .returned (.tuple #[L,.int .i64 0])/\TRes O w.heap.size L (c_i (d_g g (-4294967296)) d).1 (c_i (d_g g (-4294967296)) d).2/\Below w.heap.size w O:=by
 obtain ⟨M,eM⟩:∃ M,d_g g (-4294967296)=M:=⟨_,rfl⟩
 have cF:Hid (∀ W,Below w.heap.size w W->Calls Tryz.prog 105 #[(.agg #[.slice p1 n1 c1,.slice q1 m1 e1]),.int .i64 (-4294967296)] W fun e O=>∃ L,e = .returned (.tuple #[L,.int .i64 0])/\TRes O W.heap.size L M.1 M.2/\Below W.heap.size W O):=fun W hW=>by
  have:=k_x p1 q1 n1 c1 m1 e1 g.1 g.2 hg.2.1 hg.2.2 (-4294967296) (by unfold InR;omega) W (ad.up hW) (ab.up hW);rw [hE] at this;rw [<- eM];exact this
 have hm:b_d M:=by rw [<- eM];exact (e_X hg _).1
 rw [eM] at hF ⊢
 have cS:Hid (∀ (W:World) (p q:Option Addr) (n c m e:Nat),Below w.heap.size w W->Nums .i64 W (.slice p n c) M.1->Nums .i64 W (.slice q m e) M.2->m<=e->Calls Tryz.prog 103 #[.agg #[.slice p n c,.slice q m e],.slice p3 n3 c3] W fun e O=>∃ L,e = .returned (.tuple #[L,.int .i64 0])/\TRes O W.heap.size L (c_i M d).1 (c_i M d).2/\Below W.heap.size W O):=fun W p q n c m e hW a1 a2 a3=>by
  have:=e_g p q p3 n c m e n3 c3 M.1 M.2 d hm.2.1 hm.2.2 hd hF W a1 a2 (h3.up hW);rw [hF] at this;exact this
 clear eM hm hF hE ad ab ak h3 hg hd;obtain ⟨R,eR⟩:∃ R,c_i M d=R:=⟨_,rfl⟩
 rw [eR] at cS ⊢;clear eR;go_enter Tryz.func114,Tryz.ntmps114;go_wp2_with fail
 generalize H:World.alloc _ _=W0;have aa:=b_W (w:=w) H (by go_grown);have XA:Hid (Cel W0 w.heap.size (.slice p1 n1 c1) (.slice q1 m1 e1)):=a_F H (by simp [go_sem]);have XR:Hid (Cel W0 (w.heap.size+1) (.slice none 0 0) (.slice none 0 0)):=a_F H (by simp [go_sem]);clear H;refine (cF.out W0 aa.out).mono ?_;rintro e w1 ⟨v1,rfl,⟨s1,t1,rfl,hs,J⟩,U⟩;obtain ⟨pa,na,ca,rfl⟩:=hs.form_;obtain ⟨pb,nb,cb,rfl⟩:=J.form_;have V:=a_N (a_c aa.out U) U;have E:Hid (Nums .i64 w1 (.slice pa na ca) M.1/\Nums .i64 w1 (.slice pb nb cb) M.2/\nb<=cb):=⟨hs.nums,J.nums,J.cap⟩
 clear hs J U cF;go_wp2_with fail
 generalize ae:World.alloc _ _=W2;have B2:Below w1.heap.size w1 W2:=by rw [<- ae];exact a_b w1 _
 have D:=a_N (a_c V.out.1 B2) (a_c V.out.2 B2);have I:Hid (Nums .i64 W2 (.slice pa na ca) M.1/\Nums .i64 W2 (.slice pb nb cb) M.2/\nb<=cb):=⟨E.out.1.up B2,E.out.2.1.up B2,E.out.2.2⟩
 clear ae B2 E V;refine (cS.out W2 pa pb na ca nb cb D.out.1 I.out.1 I.out.2.1 I.out.2.2).mono ?_;rintro e w3 ⟨v3,rfl,⟨s3,t3,rfl,hs,J⟩,ac⟩;obtain ⟨af,ai,ah,rfl⟩:=hs.form_;obtain ⟨ag,am,aj,rfl⟩:=J.form_;clear cS I;obtain ⟨HF,r0,r1,r2,r3,z0,z1⟩:=h_m XR aa (a_c D.out.2 ac) (hs.low D.out.2.size) (J.low D.out.2.size) (by omega);clear hs J ac D;go_wp2;exact bodyPost_ret (v:=.tuple #[.agg #[.slice af ai ah,.slice ag am aj],.int .i64 0]) (by simp [results,Tryz.results114,go_sem,z0,z1]) rfl ⟨_,rfl,HF.out⟩
theorem i_M (p1 q1:Option Addr) (n1 c1 m1 e1:Nat) (p2:Option Addr) (n2 c2:Nat) (g:Ten) (d V:List Int) (s:Nat) (hg:b_d g) (gd:goodN (ntl d)) (hs:s < d.length) (hS:j_A g.1 g.2 (d.set s 1)=0/\j_B g.1 g.2 (d.set s 1)=d.set s 1/\k_6 g.1 g.2 (d.set s 1)=g.2) (hq:c_r (d.set s 1) g.2) (hE:b_C (d.set s 1) g.2 d (List.replicate (a_e (ntl d)) 0)=0/\b_J (d.set s 1) g.2 d (List.replicate (a_e (ntl d)) 0)=d/\b_U (fun a b=>Fx.hold (a+b)) (d.set s 1) g.2 d (List.replicate (a_e (ntl d)) 0)=V) (w:World) (ar:Nums .i64 w (.slice p1 n1 c1) g.1) (au:Nums .i64 w (.slice q1 m1 e1) g.2) (h2:Nums .i64 w (.slice p2 n2 c2) d):
  Calls Tryz.prog 108 #[.agg #[.slice p1 n1 c1,.slice q1 m1 e1],.slice p2 n2 c2,.int .i64 (s:Int)] w fun e E=>∃ D,e = .returned (.tuple #[D,.int .i64 0])/\TRes E w.heap.size D d V/\Below w.heap.size w E:=by
 have aH:d.length<=4:=by have:=gd.1;rw [a_R] at this;omega
 obtain ⟨N,eN⟩:∃ N,d.length=N:=⟨_,rfl⟩
 obtain ⟨Z,eZ⟩:∃ Z,List.replicate (a_e (ntl d)) (0:Int)=Z:=⟨_,rfl⟩
 obtain ⟨T,eT⟩:∃ T,d.set s 1=T:=⟨_,rfl⟩
 have rd:RI d:=i_G gd;have hz:c_r d Z:=by rw [<- eZ];exact q_B gd (by unfold InR;omega)
 have cC:Hid (∀ W,Below w.heap.size w W->Calls Tryz.prog 75 #[.slice p2 n2 c2] W fun e E=>∃ D,e = .returned D/\OwnK .i64 3 E W.heap.size D d/\Below W.heap.size W E):=fun W hW=>b_i _ d (by omega) W (h2.up hW)
 have cF:Hid (∀ W g_ n_ O,Below w.heap.size w W->Nums .i64 W (.slice g_ n_ O) T->Calls Tryz.prog 113 #[.agg #[.slice p1 n1 c1,.slice q1 m1 e1],.slice g_ n_ O] W fun e E=>∃ D,e = .returned (.tuple #[D,.int .i64 0])/\TRes E W.heap.size D T g.2/\Below W.heap.size W E):=fun W g_ n_ O hW hn=>by
  have rt:=hq.2.1;rw [eT] at hS rt;have:=c_8 p1 q1 g_ n1 c1 m1 e1 n_ O g.1 g.2 T hg.2.1 rt W (ar.up hW) (au.up hW) hn;rw [hS.1,hS.2.1,hS.2.2] at this;exact this
 have cN:Hid (∀ W,Below w.heap.size w W->Calls Tryz.prog 67 #[.slice p2 n2 c2,.int .i64 0] W fun e E=>∃ D,e = .returned (.tuple #[D,.int .i64 0])/\TRes E W.heap.size D d Z/\Below W.heap.size W E):=fun W hW=>by
  have:=c_O (.slice p2 n2 c2) d rd 0 W (h2.up hW);rw [show l_3 d=0 from if_pos gd,show d_V d=d from if_pos gd,show l_4 d 0=Z from (if_pos gd).trans eZ] at this;exact this
 have cA:Hid (∀ W a_ b_ O d_ e_ f_ g_ h_ i_ j_ k_ l_,Nums .i64 W (.slice a_ b_ O) T->Nums .i64 W (.slice d_ e_ f_) g.2->Nums .i64 W (.slice g_ h_ i_) d->Nums .i64 W (.slice j_ k_ l_) Z->Calls Tryz.prog 90 #[.agg #[.slice a_ b_ O,.slice d_ e_ f_],.agg #[.slice g_ h_ i_,.slice j_ k_ l_]] W fun e E=>∃ D,e = .returned (.tuple #[D,.int .i64 0])/\TRes E W.heap.size D d V/\Below W.heap.size W E):=fun W a_ b_ O d_ e_ f_ g_ h_ i_ j_ k_ l_ u1 u2 u3 u4=>by
  rw [eT] at hE hq;rw [eZ] at hE;have:=g_O a_ d_ g_ j_ b_ O e_ f_ h_ i_ k_ l_ T g.2 d Z hq.2.1 hq.2.2 hz.2.1 hz.2.2 W u1 u2 u3 u4;rw [hE.1,hE.2.1,hE.2.2] at this;exact this
 have HT:Hid (d.set s 1=T):=eT;rw [eN] at hs;have HL:Hid (d.length=N):=eN;have aK:(s:Int) < (N:Int):=by omega
 clear eN eZ eT rd hz hS hq hE ar au h2 hg gd aH;go_enter Tryz.func108,Tryz.ntmps108;go_wp2_with fail
 generalize M:World.alloc _ _=W0;have ad:=b_W (w:=w) M (by go_grown);have XA:Hid (Cel W0 w.heap.size (.slice p1 n1 c1) (.slice q1 m1 e1)):=a_F M (by simp [go_sem]);have XR:Hid (Cel W0 (w.heap.size+1) (.slice none 0 0) (.slice none 0 0)):=a_F M (by simp [go_sem]);clear M;refine (cC.out W0 ad.out).mono ?_;rintro e w1 ⟨v1,rfl,hO,aA⟩;obtain ⟨gq,cq,rfl,az⟩:=hO.at (by rw [HL.out];omega)
 rw [HL.out] at hO ⊢;obtain ⟨aw,aJ⟩:=hO.cell HL.out s hs;have ap:OwnK .i64 3 (w1.setCell ⟨gq,s,none⟩ (.int .i64 1)) W0.heap.size (.slice (some ⟨gq,0,none⟩) N cq) T:=by rw [<- HT.out];exact hO.store HL.out s 1
 have I:Hid (OwnK .i64 3 (w1.setCell ⟨gq,s,none⟩ (.int .i64 1)) W0.heap.size (.slice (some ⟨gq,0,none⟩) N cq) T/\Below W0.heap.size W0 (w1.setCell ⟨gq,s,none⟩ (.int .i64 1))):=⟨ap,aA.setCell (p:=⟨gq,s,none⟩) az _⟩
 have kg:=a_a aw;obtain ⟨ak,av,_,_⟩:=XA.out.up I.out.2;have kx:=a_a ak;clear ap hO aA cC;go_wp2_with fail
 generalize ay:World.setCell _ _ _=W2;rw [ay] at I ak av kx;have R:=a_N (a_c ad.out I.out.2) I.out.2;refine (cF.out W2 _ _ _ R.out.1 I.out.1.nums).mono ?_;rintro e w3 ⟨v3,rfl,⟨s3,t3,rfl,ab,an⟩,ag⟩;obtain ⟨p3,n3,c3,rfl⟩:=ab.form_;obtain ⟨q3,m3,e3,rfl⟩:=an.form_;have ai:=a_N (a_c R.out.1 ag) (a_c R.out.2 ag);have ah:Hid (Nums .i64 w3 (.slice p3 n3 c3) T/\Nums .i64 w3 (.slice q3 m3 e3) g.2):=⟨ab.nums,an.nums⟩
 clear ab an ag R I ay ak av kx kg aw aJ cF az;go_wp2_with fail
 generalize af:World.alloc _ _=W4;have B4:Below w3.heap.size w3 W4:=by rw [<- af];exact a_b w3 _
 have X4:Hid (Cel W4 w3.heap.size (.slice p3 n3 c3) (.slice q3 m3 e3)):=a_F af (by simp [go_sem]);have aa:=a_N (a_c ai.out.1 B4) (a_c ai.out.2 B4);have aj:Hid (Nums .i64 W4 (.slice p3 n3 c3) T/\Nums .i64 W4 (.slice q3 m3 e3) g.2):=⟨ah.out.1.up B4,ah.out.2.up B4⟩
 clear af B4 ai ah;refine (cN.out W4 aa.out.1).mono ?_;rintro e w5 ⟨v5,rfl,⟨s5,t5,rfl,ae,ac⟩,H⟩;obtain ⟨p5,n5,c5,rfl⟩:=ae.form_;obtain ⟨q5,m5,e5,rfl⟩:=ac.form_;have am:=a_N (a_c aa.out.1 H) (a_c aa.out.2 H);have X5:Hid (Cel w5 w3.heap.size (.slice p3 n3 c3) (.slice q3 m3 e3)):=X4.out.up H;have J:Hid ((Nums .i64 w5 (.slice p3 n3 c3) T/\Nums .i64 w5 (.slice q3 m3 e3) g.2)/\Nums .i64 w5 (.slice p5 n5 c5) d/\Nums .i64 w5 (.slice q5 m5 e5) Z):=⟨⟨aj.out.1.up H,aj.out.2.up H⟩,ae.nums,ac.nums⟩
 clear ae ac H aa aj X4 cN;obtain ⟨ax,aE,_,_⟩:=X5.out;have ky:=a_a ax;go_wp2_with fail
 generalize aq:World.alloc _ _=W6;have B6:Below w5.heap.size w5 W6:=by rw [<- aq];exact a_b w5 _
 have U:=a_N (a_c am.out.1 B6) (a_c am.out.2 B6);have L:Hid ((Nums .i64 W6 (.slice p3 n3 c3) T/\Nums .i64 W6 (.slice q3 m3 e3) g.2)/\Nums .i64 W6 (.slice p5 n5 c5) d/\Nums .i64 W6 (.slice q5 m5 e5) Z):=⟨⟨J.out.1.1.up B6,J.out.1.2.up B6⟩,J.out.2.1.up B6,J.out.2.2.up B6⟩
 clear aq B6 am J ax aE ky X5;refine (cA.out W6 _ _ _ _ _ _ _ _ _ _ _ _ L.out.1.1 L.out.1.2 L.out.2.1 L.out.2.2).mono ?_;rintro e w7 ⟨v7,rfl,⟨s7,t7,rfl,hs,ht⟩,ao⟩;obtain ⟨aB,aF,aD,rfl⟩:=hs.form_;obtain ⟨aC,aG,aI,rfl⟩:=ht.form_;obtain ⟨HF,r0,r1,r2,r3,z0,z1⟩:=h_m XR ad (a_c U.out.2 ao) (hs.low U.out.2.size) (ht.low U.out.2.size) (by omega);clear hs ht ao U cA L;go_wp2;exact bodyPost_ret (v:=.tuple #[.agg #[.slice aB aF aD,.slice aC aG aI],.int .i64 0]) (by simp [results,Tryz.results108,go_sem,z0,z1]) rfl ⟨_,rfl,HF.out⟩
theorem i_N (p2:Option Addr) (n2 c2:Nat) (d:List Int) (v:Int) (hv:InR v) (R:goodN (ntl d)) (w:World) (h2:Nums .i64 w (.slice p2 n2 c2) d):
  Calls Tryz.prog 109 #[.int .i64 v,.slice p2 n2 c2] w fun e w'=>∃ v',e = .returned (.tuple #[v',.int .i64 0])/\TRes w' w.heap.size v' d (List.replicate (a_e (ntl d)) (Fx.hold (rqI v (a_e (ntl d):Int))))/\Below w.heap.size w w':=by
 have rd:RI d:=i_G R;have ac:1<=a_e (ntl d):=a_B R.2.1;obtain ⟨N,eN⟩:∃ N,a_e (ntl d)=N:=⟨_,rfl⟩
 rw [eN] at ac ⊢
 have cN:Hid (∀ W x,Below w.heap.size w W->Calls Tryz.prog 67 #[.slice p2 n2 c2,.int .i64 x] W fun e w'=>∃ v',e = .returned (.tuple #[v',.int .i64 0])/\TRes w' W.heap.size v' d (List.replicate N x)/\Below W.heap.size W w'):=fun W x hW=>by
  have:=c_O (.slice p2 n2 c2) d rd x W (h2.up hW);rw [show l_3 d=0 from if_pos R,show d_V d=d from if_pos R,show l_4 d x=List.replicate N x from (if_pos R).trans (by rw [eN])] at this;exact this
 obtain ⟨Y,eY⟩:∃ Y,(List.replicate N (0:Int)).set 0 v=Y:=⟨_,rfl⟩
 have HY:Hid ((List.replicate N (0:Int)).set 0 v=Y):=eY;obtain ⟨H,eH⟩:∃ H,Fx.hold (rqI v (N:Int))=H:=⟨_,rfl⟩
 have cM:Hid (∀ W a_ b_ c_ d_ e_ f_,Nums .i64 W (.slice a_ b_ c_) d->Nums .i64 W (.slice d_ e_ f_) Y->Calls Tryz.prog 125 #[.agg #[.slice a_ b_ c_,.slice d_ e_ f_]] W fun e w'=>e = .returned (.tuple #[.int .i64 H,.int .i64 0])/\Below W.heap.size W w'):=fun W a_ b_ c_ d_ e_ f_ u1 u2=>by
  have ry:RI Y:=by
   rw [<- eY];intro y hy;rcases List.mem_or_eq_of_mem_set hy with h|h
   ·rw [List.eq_of_mem_replicate h];omega
   ·rw [h];exact hv
  have py:isP d Y:=⟨R,by rw [<- eY,List.length_set,List.length_replicate,eN]⟩
  have:=j_J a_ d_ b_ c_ e_ f_ d Y rd ry W u1 u2;rw [show k_7 d Y=0 from if_pos py,show h_N d Y=H from (if_pos py).trans (by rw [<- eY,o_A v N ac,eH])] at this;exact this
 rw [eH];have ag:(List.replicate N (0:Int)).length=N:=List.length_replicate;have HL:Hid ((List.replicate N (0:Int)).length=N):=ag;obtain ⟨Z,eZ⟩:∃ Z,List.replicate N (0:Int)=Z:=⟨_,rfl⟩
 have HZ:Hid (List.replicate N (0:Int)=Z):=eZ;rw [eZ] at HY HL;have ar:(0:Int) < (N:Int):=by omega
 clear eN eY eH eZ ag rd R h2 hv;go_enter Tryz.func109,Tryz.ntmps109;go_wp2_with fail
 generalize M:World.alloc _ _=W0;have aa:=b_W (w:=w) M (by go_grown);have XR:Hid (Cel W0 w.heap.size (.slice none 0 0) (.slice none 0 0)):=a_F M (by simp [go_sem]);clear M;refine (cN.out W0 0 aa.out).mono ?_;rintro e w1 ⟨v1,rfl,⟨s1,t1,rfl,J,D⟩,ab⟩;obtain ⟨p1,n1,c1,rfl⟩:=J.form_;rw [HZ.out] at D;obtain ⟨I,cq,rfl,aq⟩:=D.at (by rw [HL.out];omega)
 rw [HL.out] at D ⊢
 have L:Off I (.slice p1 n1 c1):=by
  obtain ⟨cs,fz,ak⟩:=D.obj;exact J.off_type ak (by decide)
 obtain ⟨ae,ap⟩:=D.cell HL.out 0 (by omega);have kg:=a_a ae
 have HS:Hid (Nums .i64 (w1.setCell ⟨I,0,none⟩ (.int .i64 v)) (.slice p1 n1 c1) d/\Nums .i64 (w1.setCell ⟨I,0,none⟩ (.int .i64 v)) (.slice (some ⟨I,0,none⟩) N cq) Y/\Below W0.heap.size W0 (w1.setCell ⟨I,0,none⟩ (.int .i64 v))):=by
  refine ⟨J.nums.stay ((Stay.refl I _).set 0 _) L,?_,ab.setCell (p:=⟨I,0,none⟩) aq _⟩;have:=(D.store HL.out 0 v).nums;rw [HY.out] at this;exact this
 clear J D ab L;go_wp2_with fail
 generalize af:World.alloc _ _=W2;have B2:Below (w1.setCell ⟨I,0,none⟩ (.int .i64 v)).heap.size (w1.setCell ⟨I,0,none⟩ (.int .i64 v)) W2:=by rw [<- af];exact a_b _ _
 have U:=a_N (a_c aa.out (a_c HS.out.2.2 B2)) (a_c HS.out.2.2 B2);have V:Hid (Nums .i64 W2 (.slice p1 n1 c1) d/\Nums .i64 W2 (.slice (some ⟨I,0,none⟩) N cq) Y):=⟨HS.out.1.up B2,HS.out.2.1.up B2⟩
 clear af B2 HS kg ae ap;refine (cM.out W2 _ _ _ _ _ _ V.out.1 V.out.2).mono ?_;rintro e w3 ⟨rfl,O⟩;have E:=a_N (a_c U.out.1 O) (a_c U.out.2 O);clear O U cM V;go_wp2_with fail
 refine (cN.out w3 H E.out.1).mono ?_;rintro e w7 ⟨v7,rfl,⟨s7,t7,rfl,hs,ht⟩,ad⟩;obtain ⟨ah,am,aj,rfl⟩:=hs.form_;obtain ⟨ai,ao,an,rfl⟩:=ht.form_;obtain ⟨HF,r0,r1,r2,r3,z0,z1⟩:=h_m XR aa (a_c E.out.2 ad) (hs.low E.out.2.size) (ht.low E.out.2.size) (by omega);clear hs ht ad E cN;go_wp2;exact bodyPost_ret (v:=.tuple #[.agg #[.slice ah am aj,.slice ai ao an],.int .i64 0]) (by simp [results,Tryz.results109,go_sem,z0,z1]) rfl ⟨_,rfl,HF.out⟩
theorem i_O (p1 q1:Option Addr) (n1 c1 H e1:Nat) (p2 q2:Option Addr) (n2 c2 m2 e2:Nat) (g a:Ten) (K:Int) (hg:b_d g) (ha:b_d a) (hE:plE a.1 a.2 K=0) (o1:(plP a.1 a.2 K).length=g.2.length) (o2:∀ i,i < (plP a.1 a.2 K).length->0<=(plP a.1 a.2 K).getD i 0/\(plP a.1 a.2 K).getD i 0 < (a_e (ntl a.1):Int)) (o3:RI (plP a.1 a.2 K)) (w:World) (aL:Nums .i64 w (.slice p1 n1 c1) g.1) (ap:Nums .i64 w (.slice q1 H e1) g.2) (aj:Nums .i64 w (.slice p2 n2 c2) a.1) (az:Nums .i64 w (.slice q2 m2 e2) a.2) (aP:m2<=e2):
  Calls Tryz.prog 112 #[.agg #[.slice p1 n1 c1,.slice q1 H e1],.agg #[.slice p2 n2 c2,.slice q2 m2 e2],.int .i64 K] w fun e w'=>∃ v',e = .returned (.tuple #[v',.int .i64 0])/\TRes w' w.heap.size v' a.1 (h_n (a_e (ntl a.1)) (plP a.1 a.2 K) g.2 (plP a.1 a.2 K).length)/\Below w.heap.size w w':=by
 have gd:=ha.1.1;have aF:1<=a_e (ntl a.1):=a_B gd.2.1;obtain ⟨N,eN⟩:∃ N,a_e (ntl a.1)=N:=⟨_,rfl⟩
 rw [eN] at aF o2 ⊢;obtain ⟨P,eP⟩:∃ P,plP a.1 a.2 K=P:=⟨_,rfl⟩
 obtain ⟨L,eL⟩:∃ L,P.length=L:=⟨_,rfl⟩
 have cP:Hid (∀ W,Below w.heap.size w W->Calls Tryz.prog 128 #[.agg #[.slice p2 n2 c2,.slice q2 m2 e2],.int .i64 K] W fun e w'=>∃ v' u',e = .returned (.tuple #[v',u',.int .i64 0])/\TRes w' W.heap.size v' (plD a.1 a.2 K) (plV a.1 a.2 K)/\OwnK .i64 3 w' W.heap.size u' P/\Below W.heap.size W w'):=fun W hW=>by
  have:=j_R p2 q2 n2 c2 m2 e2 a.1 a.2 K ha.2.1 ha.2.2 aP W (aj.up hW) (az.up hW);rw [hE,eP] at this;exact this
 have cN:Hid (∀ W,Below w.heap.size w W->Calls Tryz.prog 67 #[.slice p2 n2 c2,.int .i64 0] W fun e w'=>∃ v',e = .returned (.tuple #[v',.int .i64 0])/\TRes w' W.heap.size v' a.1 (h_n N P g.2 0)/\Below W.heap.size W w'):=fun W hW=>by
  have:=c_O (.slice p2 n2 c2) a.1 ha.2.1 0 W (aj.up hW);rw [show l_3 a.1=0 from if_pos gd,show d_V a.1=a.1 from if_pos gd,show l_4 a.1 0=h_n N P g.2 0 from (if_pos gd).trans (by rw [eN];rfl)] at this;exact this
 rw [eP] at o1 o2 o3 ⊢;rw [eL] at o1 o2 ⊢;have HL:Hid (P.length=L):=eL;have HV:Hid (∀ k,(h_n N P g.2 k).length=N):=fun k=>g_0 N P g.2 k;have HI:Hid (∀ i,i < L->0<=P.getD i 0/\P.getD i 0 < (N:Int)):=o2
 have HG:Hid (Nums .i64 w (.slice q1 H e1) g.2/\g.2.length=L/\L<=1073741824):=⟨ap,o1.symm,by
  have h1:=hg.1.2;have h2:=hg.1.1.2.2;have h3:a_e (ntl g.1)<=4096:=h2;omega⟩
 obtain ⟨em,aK⟩:H=L/\True:=⟨by
  rcases ap with ⟨h,h0⟩|⟨ad,c,h,_⟩
  ·cases h;rw [h0] at o1;simpa using o1.symm
  ·cases h;exact o1.symm,trivial⟩
 subst em;clear eN eP eL o1 o2 o3 aL ap aj az hg ha hE gd aK;go_enter Tryz.func112,Tryz.ntmps112;go_wp2_with fail
 generalize aw:World.alloc _ _=W0;obtain ⟨ao,XG,XA,XR⟩:=m_w aw;clear aw;refine (cP.out W0 ao.out).mono ?_;rintro e w1 ⟨v1,u1,rfl,⟨s1,t1,rfl,aA,aD⟩,ai,af⟩;obtain ⟨p3,n3,c3,rfl⟩:=aA.form_;obtain ⟨q3,m3,e3,rfl⟩:=aD.form_;obtain ⟨p4,c4,rfl,an⟩:=ai.nums.view;rw [HL.out] at an ai ⊢;have au:=a_N (a_c ao.out af) af;have ay:Hid (∀ j,j < H->∃ q o,p4=some ⟨q,o,none⟩/\w1.cell? ⟨q,o+j,none⟩=some (.int .i64 (P.getD j 0))):=an;obtain ⟨aC,aG,_,_⟩:=XA.out.up af;have ky:=a_a aC;clear aA aD ai af cP an;go_wp2_with fail
 generalize aE:World.alloc _ _=W2;have B2:Below w1.heap.size w1 W2:=by rw [<- aE];exact a_b _ _
 have V:=a_N (a_c au.out.1 B2) (a_c au.out.2 B2)
 have aM:Hid (∀ j,j < H->∃ q o,p4=some ⟨q,o,none⟩/\W2.cell? ⟨q,o+j,none⟩=some (.int .i64 (P.getD j 0))/\q < W2.heap.size):=fun j hj=>by
  obtain ⟨q,o,e1,e2⟩:=ay.out j hj;have:=a_d e2 B2;exact ⟨q,o,e1,this,a_a this⟩
 clear aE B2 au ay aC aG ky XA;refine (cN.out W2 V.out.1).mono ?_;rintro e w3 ⟨v3,rfl,⟨s3,t3,rfl,aa,J⟩,ab⟩;obtain ⟨R,O,M,rfl⟩:=aa.form_;obtain ⟨D,U,rfl,aS⟩:=J.at (by rw [HV.out];omega)
 rw [HV.out] at J ⊢
 have ah:Off D (.slice R O M):=by
  obtain ⟨cs,fz,aH⟩:=J.obj;exact aa.off_type aH (by decide)
 have ak:Hid (OwnK .i64 3 w3 W2.heap.size (.slice R O M) a.1/\Off D (.slice R O M)/\W2.heap.size<=D):=⟨aa,ah,aS⟩
 have ac:=a_N (a_c V.out.1 ab) (a_N (a_c V.out.2 ab) ab);have kg:=J.size;have av:Hid (OwnK .i64 23 w3 W2.heap.size (.slice (some ⟨D,0,none⟩) N U) (h_n N P g.2 0)):=J;clear aa J ab ah cN;go_wp2_with fail
 generalize aq:World.alloc _ _=W4;have B4:Below w3.heap.size w3 W4:=by rw [<- aq];exact a_b _ _
 have XT:Hid (Cel W4 w3.heap.size (.slice R O M) (.slice (some ⟨D,0,none⟩) N U)):=a_F aq (by simp [go_sem]);have ae:Hid (Below w.heap.size w W4/\Below W0.heap.size W0 W4/\Below W2.heap.size W2 W4):=⟨a_c ac.out.1 B4,a_c ac.out.2.out.1 B4,a_c ac.out.2.out.2 B4⟩
 have I:Hid (OwnK .i64 3 W4 W2.heap.size (.slice R O M) a.1/\Off D (.slice R O M)/\W2.heap.size<=D):=⟨ak.out.1.up B4,ak.out.2⟩
 have aQ:Hid (OwnK .i64 23 W4 W2.heap.size (.slice (some ⟨D,0,none⟩) N U) (h_n N P g.2 0)):=av.out.up B4;have aI:Hid (Cel W4 w.heap.size (.slice p1 n1 c1) (.slice q1 H e1)):=XG.out.up ae.out.2.1;have aJ:Hid (Cel W4 (w.heap.size+2) (.slice none 0 0) (.slice none 0 0)):=XR.out.up ae.out.2.1;have Hg:Hid (D < w3.heap.size/\w.heap.size+2 < W2.heap.size):=⟨kg,Nat.lt_of_lt_of_le (a_a XR.out.1) V.out.2.size⟩
 clear aq B4 ac ak av XG XR kg ao V;obtain ⟨tb,aB⟩:∃ b,w3.heap.size=b:=⟨_,rfl⟩
 rw [aB] at XT Hg ⊢;clear aB;haveI:Nonempty World:=⟨w⟩
 go_loopg [37] H (fun gg i wr=>∃ (k:Nat),k<=H/\gg=H - k/\i = .int .i64 (k:Int)/\Hid (OwnK .i64 23 wr W2.heap.size (.slice (some ⟨D,0,none⟩) N U) (h_n N P g.2 k))/\Hid (Below w.heap.size w wr/\Stay D W4 wr))
 case atStart=>exact ⟨0,by omega,by omega,by first|rfl|simp,aQ.out,ae.out.1,Stay.refl _ _⟩
 case round=>
  obtain ⟨k,hk,aV,rfl,HO,E⟩:=hrel;obtain ⟨R1,aN⟩:∃ R1:World,R1=wr:=⟨_,rfl⟩
  subst aN;by_cases am:k < H
  ·have aU:(k:Int) < (H:Int):=by omega
   have hm:H<=1073741824:=HG.out.2.2
   obtain ⟨j,ej,hj⟩:∃ j:Nat,P.getD k 0=(j:Int)/\j < N:=by
    have:=HI.out k am;exact ⟨(P.getD k 0).toNat,by omega,by omega⟩
   have aT:(j:Int) < (N:Int):=by omega
   obtain ⟨q,o,rfl,u1,u2⟩:=aM.out k am;have u3:=E.out.2.cell (a_d u1 ae.out.2.2) (show q≠D by have:=I.out.2.2;omega);rw [ej] at u3;have u4:=a_a u3;obtain ⟨Y,eY⟩:∃ Y,g.2.getD k 0=Y:=⟨_,rfl⟩
   have HY:Hid (g.2.getD k 0=Y/\(P.getD k 0).toNat=j):=⟨eY,by omega⟩
   obtain ⟨q',o',rfl,d1⟩:∃ q' o',q1=some ⟨q',o',none⟩/\R1.cell? ⟨q',o'+k,none⟩=some (.int .i64 Y):=by
    obtain ⟨p_,c_,e_,hv⟩:=HG.out.1.view;cases e_;obtain ⟨q',o',e1,e2⟩:=hv k (by rw [HG.out.2.1];exact am);rw [eY] at e2;exact ⟨q',o',e1,a_d e2 E.out.1⟩
   have d2:=a_a d1;obtain ⟨t0,t1,_,_⟩:=XT.out.stay E.out.2 (by have:=Hg.out;omega);have t9:=a_a t0;obtain ⟨x0,x1,_,_⟩:=aI.out.stay E.out.2 (by have:=Hg.out;have:=I.out.2.2;omega);have x9:=a_a x0;obtain ⟨ag,aO⟩:=HO.out.cell (HV.out k) j hj;have aR:=a_a ag;have ax:w.heap.size<=D:=by have:=Hg.out;have:=I.out.2.2;omega
   have H5:Hid (OwnK .i64 23 (R1.setCell ⟨D,j,none⟩ (.int .i64 Y)) W2.heap.size (.slice (some ⟨D,0,none⟩) N U) (h_n N P g.2 (k+1))/\Below w.heap.size w (R1.setCell ⟨D,j,none⟩ (.int .i64 Y))/\Stay D W4 (R1.setCell ⟨D,j,none⟩ (.int .i64 Y))):=by
    refine ⟨?_,E.out.1.setCell (p:=⟨D,j,none⟩) ax _,E.out.2.set _ _⟩;have:=HO.out.store (HV.out k) j Y;rw [h_n,HY.out.1,HY.out.2];exact this
   clear eY ej u1 u2 HO E ax;go_wp2_with fail
   go_region;generalize ar:World.drew _=W9;have H6:Hid (OwnK .i64 23 W9 W2.heap.size (.slice (some ⟨D,0,none⟩) N U) (h_n N P g.2 (k+1))):=by show OwnK _ _ _ _ _ _;rw [<- ar];exact H5.out.1.up ⟨rfl,rfl,rfl,Nat.le_refl _,fun _ _=>rfl⟩
   have H7:Hid (Below w.heap.size w W9/\Stay D W4 W9):=by
    have d:Below (R1.setCell ⟨D,j,none⟩ (.int .i64 Y)).heap.size (R1.setCell ⟨D,j,none⟩ (.int .i64 Y)) W9:=by rw [<- ar];exact ⟨rfl,rfl,rfl,Nat.le_refl _,fun _ _=>rfl⟩
    exact ⟨a_c H5.out.2.1 d,H5.out.2.2.up d⟩
   clear ar H5 u3 u4 d1 d2 t0 t1 t9 x0 x1 x9 ag aO aR;go_wp2;go_roundg (H - (k+1))
   case measure=>omega
   case rel=>exact ⟨k+1,by omega,rfl,by first|rfl|simp,H6,H7⟩
  ·obtain rfl:k=H:=by omega
   have g1:=Hg.out;have g2:=I.out.2.2;have xR:=aJ.out.stay E.out.2 (by omega);have xT:=XT.out.stay E.out.2 (by omega);have o1:=I.out.1.stay E.out.2 I.out.2.1;have HF:Hid (TRes (set2 R1 (w.heap.size+2) (.slice R O M) (.slice (some ⟨D,0,none⟩) N U)) w.heap.size (.agg #[.slice R O M,.slice (some ⟨D,0,none⟩) N U]) a.1 (h_n N P g.2 k)/\Below w.heap.size w (set2 R1 (w.heap.size+2) (.slice R O M) (.slice (some ⟨D,0,none⟩) N U))):=⟨(TRes.set o1 HO.out g1.2).low (by omega),a_k E.out.1 _ (by omega) _ _⟩
   have cf:=xR.set (.slice R O M) (.slice (some ⟨D,0,none⟩) N U);obtain ⟨r0,r1,r2,r3⟩:=xR;obtain ⟨t0,t1,_,_⟩:=xT;have kt:=a_a t0;have kr:=a_a r0;have z0:=cf.1;have z1:=cf.2.1;clear cf o1 HO E;go_wp2;exact bodyPost_ret (v:=.tuple #[.agg #[.slice R O M,.slice (some ⟨D,0,none⟩) N U],.int .i64 0]) (by simp [results,Tryz.results112,go_sem,z0,z1]) rfl ⟨_,rfl,HF.out⟩
theorem r_2 (p p2 p3 p4:Option Addr) (n c n2 c2 n3 c3 n4 c4:Nat) (d x d' y:List Int) (st lg:Int) (hd:RI d) (hx:RI x) (a5:RI d') (hy:RI y) (H:biE d x d' y st lg=0) (w:World) (hT:Hid (Tz w)) (h1:Nums .i64 w (.slice p n c) d) (h2:Nums .i64 w (.slice p2 n2 c2) x) (h3:Nums .i64 w (.slice p3 n3 c3) d') (h4:Nums .i64 w (.slice p4 n4 c4) y):
  Calls Tryz.prog 111 #[.agg #[.slice p n c,.slice p2 n2 c2],.agg #[.slice p3 n3 c3,.slice p4 n4 c4],.int .i64 st,.int .i64 lg] w fun e w'=>∃ v',e = .returned (.tuple #[v',.int .i64 (biE d x d' y st lg)])/\TRes w' w.heap.size v' (biD d x d' y st lg) (biV d x d' y st lg)/\Below w.heap.size w w':=by
 have cA:=fun W (hW:Below w.heap.size w W)=>a_C _ _ d x hd W (h1.up hW) (h2.up hW);have cB:=fun W (hW:Below w.heap.size w W)=>a_C _ _ d' y a5 W (h3.up hW) (h4.up hW);have aA:∀ W:World,Calls Tryz.prog 137 #[.int .i64 st] W fun e w'=>e = .returned (.bool (decide (1<=st/\st<=64)))/\Below W.heap.size W w':=fun W=>d_c st W;have aD:∀ W:World,Calls Tryz.prog 138 #[.int .i64 lg] W fun e w'=>e = .returned (.bool (decide (1<=lg/\lg<=4096)))/\Below W.heap.size W w':=fun W=>d_K lg W;obtain ⟨_,_,_,e4,HD⟩:=h1.lst;cases e4;obtain ⟨_,_,_,e4,ag⟩:=h3.lst;cases e4;have HN:Hid (Nums .i64 w (.slice p2 n2 c2) x/\Nums .i64 w (.slice p4 n4 c4) y):=⟨h2,h4⟩
 haveI:Nonempty World:=⟨w⟩
 by_cases hp:isP d x
 ·rw [decide_eq_true hp] at cA;by_cases hq:isP d' y
  ·rw [decide_eq_true hq] at cB;by_cases hs:1<=st/\st<=64
   ·rw [decide_eq_true hs] at aA;by_cases hl:1<=lg/\lg<=4096
    ·rw [decide_eq_true hl] at aD;have hA:biA d x d' y st lg:=⟨hp,hq,hs,hl⟩
     obtain ⟨stN,rfl⟩:∃ q:Nat,st=q:=⟨st.toNat,by omega⟩
     obtain ⟨D,rfl⟩:∃ q:Nat,lg=q:=⟨lg.toNat,by omega⟩
     have bu:n<=4:=by have:=hp.1.1;rw [a_R,HD.out.1] at this;exact this
     have bh:(n:Int)<=4:=by omega
     have bq:n3<=4:=by have:=hq.1.1;rw [a_R,ag.out.1] at this;exact this
     have bg:(n3:Int)<=4:=by omega
     by_cases hn:n=2
     ·subst hn;by_cases a4:n3=3
      ·subst a4;obtain ⟨D0,D1,rfl,aY,k0,k1,k2⟩:=a_Y hp HD.out.1;obtain ⟨E0,I,O,rfl,aZ,l0,l1,l2,l3⟩:=c_d hq ag.out.1
       have a2:Hid ((∃ q o,p=some ⟨q,o,none⟩/\w.cell? ⟨q,o,none⟩=some (.int .i64 (D0:Int))/\w.cell? ⟨q,o+1,none⟩=some (.int .i64 (D1:Int)))/\(∃ q o,p3=some ⟨q,o,none⟩/\w.cell? ⟨q,o,none⟩=some (.int .i64 (E0:Int))/\w.cell? ⟨q,o+1,none⟩=some (.int .i64 (I:Int))/\w.cell? ⟨q,o+2,none⟩=some (.int .i64 (O:Int)))):=by
        obtain ⟨q,o,rfl,ba⟩:=HD.out.2 0 (by omega);obtain ⟨q',o',e',bd⟩:=HD.out.2 1 (by omega);cases e';obtain ⟨r,s,rfl,a8⟩:=ag.out.2 0 (by omega);obtain ⟨r',s',e',ap⟩:=ag.out.2 1 (by omega);cases e';obtain ⟨r',s',e',aj⟩:=ag.out.2 2 (by omega);cases e';exact ⟨⟨_,_,rfl,ba,bd⟩,_,_,rfl,a8,ap,aj⟩
       obtain ⟨⟨qa,oa,rfl,aH,aK⟩,qb,ob,rfl,aQ,aL,aJ⟩:=a2.out;have zD:=c_L k2 k0 k1;have bf:E0*I<=4096:=Nat.le_trans (Nat.le_mul_of_pos_right _ l2) l3;have zE:=c_L bf l0 l1;have bl:O<=4096:=by have:=Nat.mul_le_mul (Nat.mul_le_mul l0 l1) (Nat.le_refl O);omega
       have bk:(D0:Int)<=4096/\(D1:Int)<=4096:=by omega
       have bp:(E0:Int)<=4096/\(I:Int)<=4096/\(O:Int)<=4096:=by omega
       by_cases hm:D0=E0
       ·subst hm;have bi:((D0:Int) != (D0:Int))=false:=by simp
        by_cases hw:O<=D
        ·have bj:(O:Int)<=(D:Int):=by omega
         by_cases hS:a_M D O stN=D1
         ·obtain ⟨M,e2,e3⟩:=i_D hA hw hS;clear H;rw [M,e2,e3];have HG:Hid (∀ (gs:Nat) (pd:Option Addr) (nd cd:Nat) (W:World),Below w.heap.size w W->Nums .i64 W (.slice pd nd cd) [(I:Int),(D:Int)]->SlC W gs I D D0 O stN->W.cell? ⟨w.heap.size,1,none⟩=some (.slice p2 n2 c2)->W.cell? ⟨w.heap.size+1,1,none⟩=some (.slice p4 n4 c4)->Calls Tryz.prog 140 #[.slice pd nd cd,.func (.func 141) #[] #[.pointer (some ⟨gs,0,none⟩),.pointer (some ⟨w.heap.size,0,none⟩),.pointer (some ⟨w.heap.size+1,0,none⟩)]] W fun e w'=>∃ v',e = .returned (.tuple #[v',.int .i64 (f_1 [(I:Int),(D:Int)])])/\TRes w' W.heap.size v' (d_V [(I:Int),(D:Int)]) (if goodN (ntl [(I:Int),(D:Int)]) then h_W D0 I D1 O stN D x y else [])/\Below W.heap.size W w'):=fun gs pd nd cd W hW hN hs a7 bb=>q_g I D D0 O stN D1 hS l2 hw (by omega) (by omega) (by omega) l1 k0 l3 k2 zD.1 zE.2 gs _ _ p2 n2 c2 p4 n4 c4 x y hx hy aY aZ pd nd cd W (Hid.up_tz hT hW) hN hs a7 bb (HN.out.1.up hW) (HN.out.2.up hW);obtain ⟨EE,aT⟩:∃ E,f_1 [(I:Int),(D:Int)]=E:=⟨_,rfl⟩
          obtain ⟨DD,aU⟩:∃ E,d_V [(I:Int),(D:Int)]=E:=⟨_,rfl⟩
          obtain ⟨VV,aV⟩:∃ E,(if goodN (ntl [(I:Int),(D:Int)]) then h_W D0 I D1 O stN D x y else [])=E:=⟨_,rfl⟩
          rw [aT,aU,aV] at HG ⊢
          have a3:∀ W:World,Calls Tryz.prog 139 #[.agg #[.int .i64 (I:Int),.int .i64 (D:Int),.int .i64 (D0:Int),.int .i64 (O:Int),.int .i64 (stN:Int)]] W fun e w'=>e = .returned (.int .i64 (D1:Int))/\Below W.heap.size W w':=fun W=>by
           have:=e_d I D D0 O stN hw (by omega) (by omega) (by omega) W;rw [hS] at this;exact this
          have bs:((D1:Int) != (D1:Int))=false:=by simp
          have bt:∀ (fn:Fn) (first cap:Array Value) (w:World),(Instr.makeFunc fn first cap).run Tryz.prog w = .ok (.func fn first cap) w:=fun _ _ _ _=>rfl;clear M e2 e3 hA hp hq hd hx a5 hy h1 h2 h3 h4 HD ag a2 aY aZ HN hS aT aU aV;go_enter Tryz.func111,Tryz.ntmps111;go_wp2_with fail
          generalize ah:World.alloc _ _=W0;have aX:=b_W (w:=w) ah (by go_grown);have XA:Hid (Cel W0 w.heap.size (.slice (some ⟨qa,oa,none⟩) 2 c) (.slice p2 n2 c2)):=a_F ah (by simp [go_sem]);have XB:Hid (Cel W0 (w.heap.size+1) (.slice (some ⟨qb,ob,none⟩) 3 c3) (.slice p4 n4 c4)):=a_F ah (by simp [go_sem]);have XR:Hid (Cel W0 (w.heap.size+1+1) (.slice none 0 0) (.slice none 0 0)):=a_F ah (by simp [go_sem]);clear ah;refine (cA W0 aX.out).mono ?_;rintro e w1 ⟨rfl,ap⟩;have av:=a_N (a_c aX.out ap) ap;clear ap cA;obtain ⟨b0,b1,_,_⟩:=XB.out.up av.out.2;go_wp2_with fail
          refine (cB w1 av.out.1).mono ?_;rintro e w2 ⟨rfl,aj⟩;have aP:=a_N (a_c av.out.1 aj) (a_c av.out.2 aj);clear aj cB b0 b1 av;go_wp2_with fail
          refine (aA w2).mono ?_;rintro e w3 ⟨rfl,aN⟩;have aO:=a_N (a_c aP.out.1 aN) (a_c aP.out.2 aN);clear aN aA aP;go_wp2_with fail
          refine (aD w3).mono ?_;rintro e w4 ⟨rfl,aI⟩;have R:=a_N (a_c aO.out.1 aI) (a_c aO.out.2 aI);clear aI aD aO;obtain ⟨a0,a1,_,_⟩:=XA.out.up R.out.2;obtain ⟨b0,b1,_,_⟩:=XB.out.up R.out.2;have a9:=a_a a0;have b9:=a_a b0;have ac:=a_d aH R.out.1;have ay:=a_a ac;have ae:=a_d aK R.out.1;have ax:=a_a ae;have ab:=a_d aQ R.out.1;have ar:=a_a ab;have ad:=a_d aL R.out.1;have au:=a_a ad;have V:=a_d aJ R.out.1;have am:=a_a V;go_wp2_with fail
          go_quiet (fail)
          generalize aS:World.drewN w4 nq=w5;have J:Hid (Below w.heap.size w w5/\Below W0.heap.size W0 w5):=by rw [<- aS];exact ⟨a_m R.out.1 nq,a_m R.out.2 nq⟩
          clear aS;clear a0 a1 b0 b1 a9 b9 ac ay ae ax ab ar ad au V am;obtain ⟨a0,a1,_,_⟩:=XA.out.up J.out.2;obtain ⟨b0,b1,_,_⟩:=XB.out.up J.out.2;have a9:=a_a a0;have b9:=a_a b0;have ac:=a_d aH J.out.1;have ay:=a_a ac;have ae:=a_d aK J.out.1;have ax:=a_a ae;have ab:=a_d aQ J.out.1;have ar:=a_a ab;have ad:=a_d aL J.out.1;have au:=a_a ad;have V:=a_d aJ J.out.1;have am:=a_a V;go_wp2_with fail
          refine d_4 (.cells #[.int .i64 0,.int .i64 0,.int .i64 0,.int .i64 0,.int .i64 0] 204) 15 16 92 10 (by kernel_rfl) rfl rfl (by kernel_rfl) rfl rfl rfl ?_;apply Exists.intro;refine ⟨?_,?_,?_⟩
          ·intro F hF;have hFc:=hF.cell;have hFf:=hF.frozen;simp only [List.take_succ_cons,List.take_zero,List.eraseIdx_cons_succ,List.eraseIdx_cons_zero]
           repeat (go_big_quiet_step (fail))
           refine wpQuiet_nil ?_;exact rfl
          ·intro W
           kernel_rfl
          intro W6 g8 hW hM;have Y0:=hM.cell (i:=0) rfl;have Y1:=hM.cell (i:=1) rfl;have Y2:=hM.cell (i:=2) rfl;have Y3:=hM.cell (i:=3) rfl;have Y4:=hM.cell (i:=4) rfl;have Z0:=hM.frozen 0;have Z1:=hM.frozen 1;have Z2:=hM.frozen 2;have Z3:=hM.frozen 3;have Z4:=hM.frozen 4;have be:g8 < W6.heap.size:=hM.1;have aG:w5.heap.size<=g8:=hM.2.1;have N5:=s_U W6 g8 (.int .i64 (I:Int)) (.int .i64 (D:Int)) (.int .i64 (D0:Int)) (.int .i64 (O:Int)) (.int .i64 (stN:Int)) Y0 Y1 Y2 Y3 Y4;have N6:=b_3 (a_c J.out.1 hW) g8 (Nat.le_trans J.out.1.size aG) (.int .i64 (I:Int)) (.int .i64 (D:Int)) (.int .i64 (D0:Int)) (.int .i64 (O:Int)) (.int .i64 (stN:Int));have N7:=b_3 (a_c J.out.2 hW) g8 (Nat.le_trans J.out.2.size aG) (.int .i64 (I:Int)) (.int .i64 (D:Int)) (.int .i64 (D0:Int)) (.int .i64 (O:Int)) (.int .i64 (stN:Int));simp only [List.drop_succ_cons,List.drop_zero];unfold d_H;clear hM hW a0 a1 b0 b1 a9 b9 ac ay ae ax ab ar ad au V am aG;go_wp2_with fail
          refine a_Q (fun w7 a6=>?_);rw [<- a6] at N5 N6 N7;clear a6 Y0 Y1 Y2 Y3 Y4 Z0 Z1 Z2 Z3 Z4 be;have L:Hid (Below w.heap.size w w7/\Below W0.heap.size W0 w7):=⟨N6,N7⟩
          have X7:Hid (SlC w7 g8 I D D0 O stN):=N5;clear N5 N6 N7;obtain ⟨a0,a1,_,_⟩:=XA.out.up L.out.2;obtain ⟨b0,b1,_,_⟩:=XB.out.up L.out.2;have a9:=a_a a0;have b9:=a_a b0;have ac:=a_d aH L.out.1;have ay:=a_a ac;have ae:=a_d aK L.out.1;have ax:=a_a ae;have ab:=a_d aQ L.out.1;have ar:=a_a ab;have ad:=a_d aL L.out.1;have au:=a_a ad;have V:=a_d aJ L.out.1;have am:=a_a V;obtain ⟨z0,z1,z2,z3,z4⟩:=X7.out;have zl:=a_a z0;refine j_r 7 92 (by kernel_rfl) rfl rfl (by kernel_rfl) ?_;apply Exists.intro;refine ⟨?_,?_⟩
          ·intro F hF;have hFc:=hF.cell;have hFf:=hF.frozen;simp only [List.take_succ_cons,List.take_zero,List.eraseIdx_cons_succ,List.eraseIdx_cons_zero]
           repeat (go_big_quiet_step (first|(go_at_call 139;with_reducible exact hF.call (a3 _))))
           refine wpQuiet_nil ?_;exact rfl
          intro w8 aE;simp only [List.drop_succ_cons,List.drop_zero];have aC:=a_N (a_c L.out.1 aE) (a_c L.out.2 aE);have X8:Hid (SlC w8 g8 I D D0 O stN):=X7.out.up aE;clear aE a0 a1 b0 b1 a9 b9 ac ay ae ax ab ar ad au V am z0 z1 z2 z3 z4 zl X7 L a3;obtain ⟨a0,a1,_,_⟩:=XA.out.up aC.out.2;obtain ⟨b0,b1,_,_⟩:=XB.out.up aC.out.2;have a9:=a_a a0;have b9:=a_a b0;obtain ⟨z0,z1,z2,z3,z4⟩:=X8.out;have zl:=a_a z0;go_wp2_with fail
          generalize aM:World.alloc _ _=W9;have aB:Below w8.heap.size w8 W9:=by rw [<- aM];exact a_b w8 _
          have aW:Nums .i64 W9 (.slice (some ⟨w8.heap.size,0,none⟩) 2 2) [(I:Int),(D:Int)]:=by rw [<- aM];exact a_5 (k:=.i64) w8 [(I:Int),(D:Int)] 2 (0,0) rfl
          have af:=a_N (a_c aC.out.1 aB) (a_c aC.out.2 aB);refine (HG.out g8 _ _ _ W9 af.out.1 aW (X8.out.up aB) (XA.out.up af.out.2).2.1 (XB.out.up af.out.2).2.1).mono ?_;rintro e aR ⟨bo,rfl,⟨br,bm,rfl,aq,aw⟩,ak⟩;obtain ⟨ao,ai,aa,rfl,_⟩:=aq.nums.lst;obtain ⟨az,an,U,rfl,_⟩:=aw.nums.lst;have aF:=a_N (a_c af.out.1 ak) (a_c af.out.2 ak);have xr:=XR.out.up aF.out.2;have hz:=a_a XR.out.1;have bn:=af.out.2.size;have HF:Hid (TRes (set2 aR (w.heap.size+1+1) (.slice ao ai aa) (.slice az an U)) w.heap.size (.agg #[.slice ao ai aa,.slice az an U]) DD VV/\Below w.heap.size w (set2 aR (w.heap.size+1+1) (.slice ao ai aa) (.slice az an U))):=⟨(TRes.set aq aw (by omega)).low (by have:=af.out.1.size;omega),a_k aF.out.1 _ (by omega) _ _⟩
          have cf:=xr.set (.slice ao ai aa) (.slice az an U);obtain ⟨r0,r1,r2,r3⟩:=xr;obtain ⟨y0,y1,_,_⟩:=cf;have r9:=a_a r0;clear aq aw ak aW aB aM a0 a1 b0 b1 a9 b9 z0 z1 z2 z3 z4 zl HG;go_wp2;exact bodyPost_ret (v:=.tuple #[.agg #[.slice ao ai aa,.slice az an U],.int .i64 EE]) (by simp [results,Tryz.results111,go_sem,y0,y1]) rfl ⟨_,rfl,HF.out⟩
         ·obtain ⟨SX,bc⟩:∃ S,a_M D O stN=S:=⟨_,rfl⟩
          rw [bc] at hS;obtain ⟨M,e2,e3⟩:=e_e hA (fun h=>hS (by have:=h.2.2.2.2;simp at this;omega));rw [M] at H;cases H
        ·obtain ⟨M,e2,e3⟩:=e_e hA (fun h=>hw (by have:=h.2.2.2.1;simp at this;omega));rw [M] at H;cases H
       ·obtain ⟨M,e2,e3⟩:=e_e hA (fun h=>hm (by have:=h.2.2.1;simp at this;omega));rw [M] at H;cases H
      ·obtain ⟨M,e2,e3⟩:=e_e hA (fun h=>a4 (by rw [<- ag.out.1];exact h.2.1));rw [M] at H;cases H
     ·obtain ⟨M,e2,e3⟩:=e_e hA (fun h=>hn (by rw [<- HD.out.1];exact h.1));rw [M] at H;cases H
    ·rw [decide_eq_false hl] at aD;obtain ⟨M,e2,e3⟩:=j_N (d:=d) (x:=x) (d':=d') (y:=y) (st:=st) (lg:=lg) (fun h=>hl h.2.2.2);rw [M] at H;cases H
   ·rw [decide_eq_false hs] at aA;obtain ⟨M,e2,e3⟩:=j_N (d:=d) (x:=x) (d':=d') (y:=y) (st:=st) (lg:=lg) (fun h=>hs h.2.2.1);rw [M] at H;cases H
  ·rw [decide_eq_false hq] at cB;obtain ⟨M,e2,e3⟩:=j_N (d:=d) (x:=x) (d':=d') (y:=y) (st:=st) (lg:=lg) (fun h=>hq h.2.1);rw [M] at H;cases H
 ·rw [decide_eq_false hp] at cA;obtain ⟨M,e2,e3⟩:=j_N (d:=d) (x:=x) (d':=d') (y:=y) (st:=st) (lg:=lg) (fun h=>hp h.1);rw [M] at H;cases H
theorem q_F (p p2 p3 p4:Option Addr) (n c n2 c2 n3 c3 n4 c4:Nat) (d x d' y:List Int) (st lg:Int) (hd:RI d) (hx:RI x) (a2:RI d') (hy:RI y) (H:bkE d x d' y st lg=0) (w:World) (hT:Hid (Tz w)) (h1:Nums .i64 w (.slice p n c) d) (h2:Nums .i64 w (.slice p2 n2 c2) x) (h3:Nums .i64 w (.slice p3 n3 c3) d') (h4:Nums .i64 w (.slice p4 n4 c4) y):
  Calls Tryz.prog 116 #[.agg #[.slice p n c,.slice p2 n2 c2],.agg #[.slice p3 n3 c3,.slice p4 n4 c4],.int .i64 st,.int .i64 lg] w fun e w'=>∃ v',e = .returned (.tuple #[v',.int .i64 (bkE d x d' y st lg)])/\TRes w' w.heap.size v' (bkD d x d' y st lg) (bkV d x d' y st lg)/\Below w.heap.size w w':=by
 have cA:=fun W (hW:Below w.heap.size w W)=>a_C _ _ d x hd W (h1.up hW) (h2.up hW);have cB:=fun W (hW:Below w.heap.size w W)=>a_C _ _ d' y a2 W (h3.up hW) (h4.up hW);have ax:∀ W:World,Calls Tryz.prog 137 #[.int .i64 st] W fun e w'=>e = .returned (.bool (decide (1<=st/\st<=64)))/\Below W.heap.size W w':=fun W=>d_c st W;have aA:∀ W:World,Calls Tryz.prog 138 #[.int .i64 lg] W fun e w'=>e = .returned (.bool (decide (1<=lg/\lg<=4096)))/\Below W.heap.size W w':=fun W=>d_K lg W;obtain ⟨_,_,_,e4,HD⟩:=h1.lst;cases e4;obtain ⟨_,_,_,e4,af⟩:=h3.lst;cases e4;have HN:Hid (Nums .i64 w (.slice p2 n2 c2) x/\Nums .i64 w (.slice p4 n4 c4) y):=⟨h2,h4⟩
 haveI:Nonempty World:=⟨w⟩
 by_cases hp:isP d x
 ·rw [decide_eq_true hp] at cA;by_cases hq:isP d' y
  ·rw [decide_eq_true hq] at cB;by_cases hs:1<=st/\st<=64
   ·rw [decide_eq_true hs] at ax;by_cases hl:1<=lg/\lg<=4096
    ·rw [decide_eq_true hl] at aA;have hA:biA d x d' y st lg:=⟨hp,hq,hs,hl⟩
     obtain ⟨stN,rfl⟩:∃ q:Nat,st=q:=⟨st.toNat,by omega⟩
     obtain ⟨D,rfl⟩:∃ q:Nat,lg=q:=⟨lg.toNat,by omega⟩
     have bo:n<=4:=by have:=hp.1.1;rw [a_R,HD.out.1] at this;exact this
     have bd:(n:Int)<=4:=by omega
     have bk:n3<=4:=by have:=hq.1.1;rw [a_R,af.out.1] at this;exact this
     have bc:(n3:Int)<=4:=by omega
     by_cases hn:n=2
     ·subst hn;by_cases aZ:n3=2
      ·subst aZ;obtain ⟨I,D1,rfl,aV,k0,k1,k2⟩:=a_Y hp HD.out.1;obtain ⟨J,E1,rfl,aW,l0,l1,l3⟩:=a_Y hq af.out.1
       have aX:Hid ((∃ q o,p=some ⟨q,o,none⟩/\w.cell? ⟨q,o,none⟩=some (.int .i64 (I:Int))/\w.cell? ⟨q,o+1,none⟩=some (.int .i64 (D1:Int)))/\(∃ q o,p3=some ⟨q,o,none⟩/\w.cell? ⟨q,o,none⟩=some (.int .i64 (J:Int))/\w.cell? ⟨q,o+1,none⟩=some (.int .i64 (E1:Int)))):=by
        obtain ⟨q,o,rfl,a6⟩:=HD.out.2 0 (by omega);obtain ⟨q',o',e',ba⟩:=HD.out.2 1 (by omega);cases e';obtain ⟨r,s,rfl,a5⟩:=af.out.2 0 (by omega);obtain ⟨r',s',e',am⟩:=af.out.2 1 (by omega);cases e';exact ⟨⟨_,_,rfl,a6,ba⟩,_,_,rfl,a5,am⟩
       obtain ⟨⟨qa,oa,rfl,aF,aH⟩,qb,ob,rfl,aN,aI⟩:=aX.out;have zD:=c_L k2 k0 k1;have zE:=c_L l3 l0 l1;have bf:(I:Int)<=4096/\(D1:Int)<=4096:=by omega
       have bj:(J:Int)<=4096/\(E1:Int)<=4096:=by omega
       by_cases hw:D<=E1
       ·have be:(D:Int)<=(E1:Int):=by omega
        by_cases hS:a_M E1 D stN=D1
        ·obtain ⟨O,e2,e3⟩:=i_E hA hw hS;clear H;rw [O,e2,e3];have HG:Hid (∀ (gs:Nat) (pd:Option Addr) (nd cd:Nat) (W:World),Below w.heap.size w W->Nums .i64 W (.slice pd nd cd) [(I:Int),(J:Int),(D:Int)]->SlC W gs J E1 I D stN->W.cell? ⟨w.heap.size,1,none⟩=some (.slice p2 n2 c2)->W.cell? ⟨w.heap.size+1,1,none⟩=some (.slice p4 n4 c4)->Calls Tryz.prog 140 #[.slice pd nd cd,.func (.func 145) #[] #[.pointer (some ⟨gs,0,none⟩),.pointer (some ⟨w.heap.size,0,none⟩),.pointer (some ⟨w.heap.size+1,0,none⟩)]] W fun e w'=>∃ v',e = .returned (.tuple #[v',.int .i64 (f_1 [(I:Int),(J:Int),(D:Int)])])/\TRes w' W.heap.size v' (d_V [(I:Int),(J:Int),(D:Int)]) (if goodN (ntl [(I:Int),(J:Int),(D:Int)]) then p_c I J D1 E1 D stN x y else [])/\Below W.heap.size W w'):=fun gs pd nd cd W hW hN hs a4 a7=>o_m J E1 I D stN D1 hS (by omega) hw zE.2 (by omega) (by omega) l0 k0 k2 l3 zD.1 zE.1 gs _ _ p2 n2 c2 p4 n4 c4 x y hx hy aV aW pd nd cd W (Hid.up_tz hT hW) hN hs a4 a7 (HN.out.1.up hW) (HN.out.2.up hW);obtain ⟨EE,aQ⟩:∃ E,f_1 [(I:Int),(J:Int),(D:Int)]=E:=⟨_,rfl⟩
         obtain ⟨DD,aR⟩:∃ E,d_V [(I:Int),(J:Int),(D:Int)]=E:=⟨_,rfl⟩
         obtain ⟨VV,aS⟩:∃ E,(if goodN (ntl [(I:Int),(J:Int),(D:Int)]) then p_c I J D1 E1 D stN x y else [])=E:=⟨_,rfl⟩
         rw [aQ,aR,aS] at HG ⊢
         have aY:∀ W:World,Calls Tryz.prog 139 #[.agg #[.int .i64 (J:Int),.int .i64 (E1:Int),.int .i64 (I:Int),.int .i64 (D:Int),.int .i64 (stN:Int)]] W fun e w'=>e = .returned (.int .i64 (D1:Int))/\Below W.heap.size W w':=fun W=>by
          have:=e_d J E1 I D stN hw (by omega) (by omega) (by omega) W;rw [hS] at this;exact this
         have bm:((D1:Int) != (D1:Int))=false:=by simp
         have bn:∀ (fn:Fn) (first cap:Array Value) (w:World),(Instr.makeFunc fn first cap).run Tryz.prog w = .ok (.func fn first cap) w:=fun _ _ _ _=>rfl;clear O e2 e3 hA hp hq hd hx a2 hy h1 h2 h3 h4 HD af aX aV aW HN hS aQ aR aS;go_enter Tryz.func116,Tryz.ntmps116;go_wp2_with fail
         generalize ag:World.alloc _ _=W0;have aU:=b_W (w:=w) ag (by go_grown);have XA:Hid (Cel W0 w.heap.size (.slice (some ⟨qa,oa,none⟩) 2 c) (.slice p2 n2 c2)):=a_F ag (by simp [go_sem]);have XB:Hid (Cel W0 (w.heap.size+1) (.slice (some ⟨qb,ob,none⟩) 2 c3) (.slice p4 n4 c4)):=a_F ag (by simp [go_sem]);have XR:Hid (Cel W0 (w.heap.size+1+1) (.slice none 0 0) (.slice none 0 0)):=a_F ag (by simp [go_sem]);clear ag;refine (cA W0 aU.out).mono ?_;rintro e w1 ⟨rfl,am⟩;have aq:=a_N (a_c aU.out am) am;clear am cA;obtain ⟨b0,b1,_,_⟩:=XB.out.up aq.out.2;go_wp2_with fail
         refine (cB w1 aq.out.1).mono ?_;rintro e w2 ⟨rfl,aD⟩;have aM:=a_N (a_c aq.out.1 aD) (a_c aq.out.2 aD);clear aD cB b0 b1 aq;go_wp2_with fail
         refine (ax w2).mono ?_;rintro e w3 ⟨rfl,aK⟩;have aL:=a_N (a_c aM.out.1 aK) (a_c aM.out.2 aK);clear aK ax aM;go_wp2_with fail
         refine (aA w3).mono ?_;rintro e w4 ⟨rfl,aG⟩;have ae:=a_N (a_c aL.out.1 aG) (a_c aL.out.2 aG);clear aG aA aL;obtain ⟨a0,a1,_,_⟩:=XA.out.up ae.out.2;obtain ⟨b0,b1,_,_⟩:=XB.out.up ae.out.2;have a9:=a_a a0;have b9:=a_a b0;have aa:=a_d aF ae.out.1;have av:=a_a aa;have ac:=a_d aH ae.out.1;have au:=a_a ac;have V:=a_d aN ae.out.1;have ao:=a_a V;have ab:=a_d aI ae.out.1;have ap:=a_a ab;go_wp2_with fail
         refine a_Q (fun w5 aP=>?_);have L:Hid (Below w.heap.size w w5/\Below W0.heap.size W0 w5):=by rw [aP];exact ae.out
         clear aP;clear a0 a1 b0 b1 a9 b9 aa av ac au V ao ab ap;obtain ⟨a0,a1,_,_⟩:=XA.out.up L.out.2;obtain ⟨b0,b1,_,_⟩:=XB.out.up L.out.2;have a9:=a_a a0;have b9:=a_a b0;have aa:=a_d aF L.out.1;have av:=a_a aa;have ac:=a_d aH L.out.1;have au:=a_a ac;have V:=a_d aN L.out.1;have ao:=a_a V;have ab:=a_d aI L.out.1;have ap:=a_a ab;go_wp2_with fail
         refine d_4 (.cells #[.int .i64 0,.int .i64 0,.int .i64 0,.int .i64 0,.int .i64 0] 204) 15 16 83 10 (by kernel_rfl) rfl rfl (by kernel_rfl) rfl rfl rfl ?_;apply Exists.intro;refine ⟨?_,?_,?_⟩
         ·intro F hF;have hFc:=hF.cell;have hFf:=hF.frozen;simp only [List.take_succ_cons,List.take_zero,List.eraseIdx_cons_succ,List.eraseIdx_cons_zero]
          repeat (go_big_quiet_step (fail))
          refine wpQuiet_nil ?_;exact rfl
         ·intro W
          kernel_rfl
         intro W6 g8 hW hM;have Y0:=hM.cell (i:=0) rfl;have Y1:=hM.cell (i:=1) rfl;have Y2:=hM.cell (i:=2) rfl;have Y3:=hM.cell (i:=3) rfl;have Y4:=hM.cell (i:=4) rfl;have Z0:=hM.frozen 0;have Z1:=hM.frozen 1;have Z2:=hM.frozen 2;have Z3:=hM.frozen 3;have Z4:=hM.frozen 4;have bb:g8 < W6.heap.size:=hM.1;have aE:w5.heap.size<=g8:=hM.2.1;have N5:=s_U W6 g8 (.int .i64 (J:Int)) (.int .i64 (E1:Int)) (.int .i64 (I:Int)) (.int .i64 (D:Int)) (.int .i64 (stN:Int)) Y0 Y1 Y2 Y3 Y4;have N6:=b_3 (a_c L.out.1 hW) g8 (Nat.le_trans L.out.1.size aE) (.int .i64 (J:Int)) (.int .i64 (E1:Int)) (.int .i64 (I:Int)) (.int .i64 (D:Int)) (.int .i64 (stN:Int));have N7:=b_3 (a_c L.out.2 hW) g8 (Nat.le_trans L.out.2.size aE) (.int .i64 (J:Int)) (.int .i64 (E1:Int)) (.int .i64 (I:Int)) (.int .i64 (D:Int)) (.int .i64 (stN:Int));simp only [List.drop_succ_cons,List.drop_zero];unfold d_H;clear hM hW a0 a1 b0 b1 a9 b9 aa av ac au V ao ab ap aE;go_wp2_with fail
         refine a_Q (fun w7 a3=>?_);rw [<- a3] at N5 N6 N7;clear a3 Y0 Y1 Y2 Y3 Y4 Z0 Z1 Z2 Z3 Z4 bb;have M:Hid (Below w.heap.size w w7/\Below W0.heap.size W0 w7):=⟨N6,N7⟩
         have X7:Hid (SlC w7 g8 J E1 I D stN):=N5;clear N5 N6 N7;obtain ⟨a0,a1,_,_⟩:=XA.out.up M.out.2;obtain ⟨b0,b1,_,_⟩:=XB.out.up M.out.2;have a9:=a_a a0;have b9:=a_a b0;have aa:=a_d aF M.out.1;have av:=a_a aa;have ac:=a_d aH M.out.1;have au:=a_a ac;have V:=a_d aN M.out.1;have ao:=a_a V;have ab:=a_d aI M.out.1;have ap:=a_a ab;obtain ⟨z0,z1,z2,z3,z4⟩:=X7.out;have zl:=a_a z0;refine j_r 7 83 (by kernel_rfl) rfl rfl (by kernel_rfl) ?_;apply Exists.intro;refine ⟨?_,?_⟩
         ·intro F hF;have hFc:=hF.cell;have hFf:=hF.frozen;simp only [List.take_succ_cons,List.take_zero,List.eraseIdx_cons_succ,List.eraseIdx_cons_zero]
          repeat (go_big_quiet_step (first|(go_at_call 139;with_reducible exact hF.call (aY _))))
          refine wpQuiet_nil ?_;exact rfl
         intro w8 aB;simp only [List.drop_succ_cons,List.drop_zero];have az:=a_N (a_c M.out.1 aB) (a_c M.out.2 aB);have X8:Hid (SlC w8 g8 J E1 I D stN):=X7.out.up aB;clear aB a0 a1 b0 b1 a9 b9 aa av ac au V ao ab ap z0 z1 z2 z3 z4 zl X7 M aY;obtain ⟨a0,a1,_,_⟩:=XA.out.up az.out.2;obtain ⟨b0,b1,_,_⟩:=XB.out.up az.out.2;have a9:=a_a a0;have b9:=a_a b0;obtain ⟨z0,z1,z2,z3,z4⟩:=X8.out;have zl:=a_a z0;go_wp2_with fail
         generalize aJ:World.alloc _ _=W9;have ay:Below w8.heap.size w8 W9:=by rw [<- aJ];exact a_b w8 _
         have aT:Nums .i64 W9 (.slice (some ⟨w8.heap.size,0,none⟩) 3 3) [(I:Int),(J:Int),(D:Int)]:=by rw [<- aJ];exact a_5 (k:=.i64) w8 [(I:Int),(J:Int),(D:Int)] 3 (0,0) rfl
         have ad:=a_N (a_c az.out.1 ay) (a_c az.out.2 ay);refine (HG.out g8 _ _ _ W9 ad.out.1 aT (X8.out.up ay) (XA.out.up ad.out.2).2.1 (XB.out.up ad.out.2).2.1).mono ?_;rintro e aO ⟨bi,rfl,⟨bl,bg,rfl,an,ar⟩,ai⟩;obtain ⟨ak,ah,U,rfl,_⟩:=an.nums.lst;obtain ⟨aw,aj,R,rfl,_⟩:=ar.nums.lst;have aC:=a_N (a_c ad.out.1 ai) (a_c ad.out.2 ai);have xr:=XR.out.up aC.out.2;have hz:=a_a XR.out.1;have bh:=ad.out.2.size;have HF:Hid (TRes (set2 aO (w.heap.size+1+1) (.slice ak ah U) (.slice aw aj R)) w.heap.size (.agg #[.slice ak ah U,.slice aw aj R]) DD VV/\Below w.heap.size w (set2 aO (w.heap.size+1+1) (.slice ak ah U) (.slice aw aj R))):=⟨(TRes.set an ar (by omega)).low (by have:=ad.out.1.size;omega),a_k aC.out.1 _ (by omega) _ _⟩
         have cf:=xr.set (.slice ak ah U) (.slice aw aj R);obtain ⟨r0,r1,r2,r3⟩:=xr;obtain ⟨y0,y1,_,_⟩:=cf;have r9:=a_a r0;clear an ar ai aT ay aJ a0 a1 b0 b1 a9 b9 z0 z1 z2 z3 z4 zl HG;go_wp2;exact bodyPost_ret (v:=.tuple #[.agg #[.slice ak ah U,.slice aw aj R],.int .i64 EE]) (by simp [results,Tryz.results116,go_sem,y0,y1]) rfl ⟨_,rfl,HF.out⟩
        ·obtain ⟨SX,a8⟩:∃ S,a_M E1 D stN=S:=⟨_,rfl⟩
         rw [a8] at hS;obtain ⟨O,e2,e3⟩:=e_V hA (fun h=>hS (by have:=h.2.2.2;simp at this;omega));rw [O] at H;cases H
       ·obtain ⟨O,e2,e3⟩:=e_V hA (fun h=>hw (by have:=h.2.2.1;simp at this;omega));rw [O] at H;cases H
      ·obtain ⟨O,e2,e3⟩:=e_V hA (fun h=>aZ (by rw [<- af.out.1];exact h.2.1));rw [O] at H;cases H
     ·obtain ⟨O,e2,e3⟩:=e_V hA (fun h=>hn (by rw [<- HD.out.1];exact h.1));rw [O] at H;cases H
    ·rw [decide_eq_false hl] at aA;obtain ⟨O,e2,e3⟩:=j_O (d:=d) (x:=x) (d':=d') (y:=y) (st:=st) (lg:=lg) (fun h=>hl h.2.2.2);rw [O] at H;cases H
   ·rw [decide_eq_false hs] at ax;obtain ⟨O,e2,e3⟩:=j_O (d:=d) (x:=x) (d':=d') (y:=y) (st:=st) (lg:=lg) (fun h=>hs h.2.2.1);rw [O] at H;cases H
  ·rw [decide_eq_false hq] at cB;obtain ⟨O,e2,e3⟩:=j_O (d:=d) (x:=x) (d':=d') (y:=y) (st:=st) (lg:=lg) (fun h=>hq h.2.1);rw [O] at H;cases H
 ·rw [decide_eq_false hp] at cA;obtain ⟨O,e2,e3⟩:=j_O (d:=d) (x:=x) (d':=d') (y:=y) (st:=st) (lg:=lg) (fun h=>hp h.1);rw [O] at H;cases H
end Go.Proofs.YtjlofobnmjompaaGreatDoor.Wd
