/- Of nodes that were reckoned of those ahead of them nothing refuses what a gradient is taken through. · The code's back: what two calls of other packages give, one behind the other. -/
import Derived.Test.YtjlofobnmjompaaGreatDoorJ20
import Derived.Test.YtjlofobnmjompaaGreatDoorJ03
import Derived.Test.YtjlofobnmjompaaGreatDoorJ12
import Derived.Test.YtjlofobnmjompaaGreatDoorJ07
set_option linter.unusedVariables false
set_option linter.unusedSimpArgs false
set_option maxHeartbeats 16000000
set_option maxRecDepth 16000
namespace Go.Proofs.YtjlofobnmjompaaGreatDoor.Wd
open Go.RowKit Fx
/-- A node's Op, its number, the two that it is of, a gradient of it. -/
def OkP (op K:Int) (a b g:Ten):Prop:=TenG a∧TenG g∧(twoP op→TenG b)∧rkE op a.1 a.2 b.1 b.2 K=0∧g.1=rkD op a.1 a.2 b.1 b.2 K
theorem foldE_ok {d x d':List Int} (h:foldP d x d'):foldE d x d'=0:=(if_pos h.1).trans (if_pos h.2)
/-- Ops 2, 3, 4. -/
theorem ok_each {a b g:Ten} (ha:TenG a) (hb:TenG b) (hE:eachE a.1 a.2 b.1 b.2=0) (hg:TenG g) (eg:g.1=eachD a.1 a.2 b.1 b.2):
  (foldE g.1 g.2 a.1=0∧foldE g.1 g.2 b.1=0)∧(foldE (scale2 g (-4294967296)).1 (scale2 g (-4294967296)).2 b.1=0∧scaleE g.1 g.2=0)
  ∧ (eachE g.1 g.2 b.1 b.2=0∧foldE (mul2 g b).1 (mul2 g b).2 a.1=0∧TenG (mul2 g b))∧eachE g.1 g.2 a.1 a.2=0∧foldE (mul2 g a).1 (mul2 g a).2 b.1=0∧TenG (mul2 g a):=by
 have hp:isP a.1 a.2∧isP b.1 b.2:=⟨ha.1,hb.1⟩
 have hj:joinE a.1 b.1=0:=(if_pos hp).symm.trans hE
 obtain ⟨A,B,J,h⟩:=joint hp hj
 have eJ:g.1=itl J:=eg.trans (h.E (op:=fun a b=>a)).2.1
 have pg:∀ t:Ten,TenG t→t.1=g.1→isP (itl J) t.2:=fun t ht et=>by rw [← eJ,← et];exact ht.1
 have fo:∀ t:Ten,TenG t→t.1=g.1→foldE t.1 t.2 a.1=0∧foldE t.1 t.2 b.1=0:=fun t ht et=>by
  have hf:=joint_fold h (pg t ht et)
  rw [← eJ,← et] at hf
  exact ⟨foldE_ok hf.1,foldE_ok hf.2⟩
 have me:∀ (s:Ten) (c:List Nat),TenG s→s.1=itl c→goodN c→fitsN c J→joinN c J=J→eachE g.1 g.2 s.1 s.2=0:=fun s c hs ec gc fc jc=>by
  have f2:fitsN J c:=fun i h1 h2=>by
   have:=fc i h1 (by omega)
   rcases this with h|h|h
   ·exact .inl h.symm
   ·exact .inr (.inr h)
   ·exact .inr (.inl h)
  have j2:joinN J c=J:=by rw [joinN_comm];exact jc
  obtain ⟨p1,p2⟩:=join_fine h.gJ gc f2 (by rw [j2];exact h.gJ)
  exact (if_pos ⟨hg.1,hs.1⟩).trans (by rw [eJ,ec];exact p2)
 have h1:=mul_g hg hb eJ h.db h.gJ h.gb h.fb h.jb
 have h2:=mul_g hg ha eJ h.da h.gJ h.ga h.fa h.ja
 have hs:=scale_g2 hg (-4294967296)
 exact ⟨fo g hg rfl,⟨(fo _ hs.1 hs.2).2,if_pos hg.1⟩,⟨me b B hb h.db h.gb h.fb h.jb,(fo _ h1.1 h1.2).1,h1.1⟩,me a A ha h.da h.ga h.fa h.ja,(fo _ h2.1 h2.2).2,h2.1⟩
/-- Op 11, 13, 14, 7, 8: what a node of that kind says of the one that it is of. -/
theorem ok_bend {k:Int} {a g:Ten} (ha:TenG a) (hE:bentE k a.1 a.2=0) (hg:TenG g) (eg:g.1=bentD k a.1 a.2):unbE k a.1 a.2 g.1 g.2=0:=by
 have hk:(1≤k∧k≤5)∧isP a.1 a.2:=by
  unfold bentE at hE
  by_cases h:(1≤k∧k≤5)∧isP a.1 a.2
  ·exact h
  ·rw [if_neg h] at hE;cases hE
 have e:g.1=a.1:=eg.trans (if_pos hk)
 exact (if_pos ⟨hk.1,ha.1,hg.1⟩).trans (if_pos e.symm)
/-- Op 8: a side of one spreads over the whole. -/
theorem prod_thin:∀ (d:List Nat) (s:Nat),s < d.length→prodN (d.set s 1)=prodN (lessN d s)
 | b :: bs,0,_=>by simp [lessN,prodN]
 | b :: bs,s+1,h=>by
  have ih:=prod_thin bs s (by simpa using h)
  show b*prodN (bs.set s 1)=b*prodN (lessN bs s)
  rw [ih]
 | [],s,h=>by simp at h
theorem good_thin {d:List Nat} (hd:goodN d) (s:Nat) (h:s < d.length):goodN (d.set s 1):=by
 refine ⟨by rw [List.length_set];exact hd.1,fun x hx=>?_,?_⟩
 ·rcases List.mem_or_eq_of_mem_set hx with h|h
  ·exact hd.2.1 x h
  ·omega
 ·rw [prod_thin d s h]
  exact (good_less hd s h).2.2
theorem side_set (d:List Nat) (s i:Nat) (h:s < d.length) (h1:1≤i):sideN (d.set s 1) i=if i=d.length - s then 1 else sideN d i:=by
 unfold sideN
 rw [List.length_set]
 by_cases hi:i≤d.length
 ·rw [if_pos hi,if_pos hi,List.getD_eq_getElem?_getD,List.getD_eq_getElem?_getD,List.getElem?_set]
  by_cases e:i=d.length - s
  ·rw [if_pos e,if_pos (by omega),if_pos (by omega)]
   rfl
  ·rw [if_neg e,if_neg (by omega)]
 ·rw [if_neg hi,if_neg hi]
  split <;> rfl
theorem thin_fits {d:List Nat} (hd:goodN d) (s:Nat) (h:s < d.length):fitsN (d.set s 1) d∧joinN (d.set s 1) d=d:=by
 constructor
 ·intro i h1 _
  rw [side_set d s i h h1]
  split
  ·exact .inr (.inl rfl)
  ·exact .inl rfl
 ·refine ext_side (by rw [joinN_len,List.length_set,Nat.max_self]) fun i h1 _=>?_
  rw [joinN_side _ _ _ h1,side_set d s i h h1]
  have:=sideN_pos hd.2.1 i
  split <;> omega
theorem frN_same (d:List Nat) (a:Nat) (h:∀ x,x∈d→1≤x) (ha:a < prodN d):frN d d a=a:=by
 rw [← frN_eq d d a rfl,pick_same (inside_place d a h ha),eval_place d a h ha]
theorem split_div (q T Q r:Nat) (hQ:0 < Q):(q*(T*Q)+r) / Q=q*T+r / Q:=by
 rw [← Nat.mul_assoc,Nat.add_comm,Nat.add_mul_div_right _ _ hQ,Nat.add_comm]
theorem fr_thin:∀ (d:List Nat) (s i:Nat),(∀ x,x∈d→1≤x)→s < d.length→i < prodN d→frN (d.set s 1) d i=i / (d.getD s 0*prodN (d.drop (s+1)))*prodN (d.drop (s+1))+i % prodN (d.drop (s+1))
 | [],s,i,_,h,_=>by simp at h
 | b :: bs,0,i,hp,_,hi=>by
  have hR:1≤prodN bs:=prodN_pos fun y hy=>hp y (List.mem_cons_of_mem _ hy)
  have hi':i < b*prodN bs:=hi
  show (if 1=1 then 0 else i / prodN bs)*prodN bs+frN bs bs (i % prodN bs)=i / (b*prodN bs)*prodN bs+i % prodN bs
  rw [if_pos rfl,frN_same bs _ (fun y hy=>hp y (List.mem_cons_of_mem _ hy)) (Nat.mod_lt _ hR),Nat.div_eq_of_lt hi']
 | b :: bs,s+1,i,hp,hs,hi=>by
  have hp':∀ y,y∈bs→1≤y:=fun y hy=>hp y (List.mem_cons_of_mem _ hy)
  have hR:1≤prodN bs:=prodN_pos hp'
  have hs':s < bs.length:=by simpa using hs
  have ih:=fr_thin bs s (i % prodN bs) hp' hs' (Nat.mod_lt _ hR)
  have hi':i < b*prodN bs:=hi
  have hq:(if b=1 then 0 else i / prodN bs)=i / prodN bs:=by
   by_cases hb:b=1
   ·rw [if_pos hb]
    subst hb
    rw [Nat.one_mul] at hi'
    exact (Nat.div_eq_of_lt hi').symm
   ·rw [if_neg hb]
  show (if b=1 then 0 else i / prodN bs)*prodN (bs.set s 1)+frN (bs.set s 1) bs (i % prodN bs)=i / (bs.getD s 0*prodN (bs.drop (s+1)))*prodN (bs.drop (s+1))+i % prodN (bs.drop (s+1))
  rw [hq,ih,prod_thin bs s hs']
  have e1:prodN (lessN bs s)=prodN (bs.take s)*prodN (bs.drop (s+1)):=by rw [lessN,prodN_append]
  have e2:prodN bs=prodN (bs.take s)*(bs.getD s 0*prodN (bs.drop (s+1))):=by
   rw [← prodN_less bs s hs',e1,Nat.mul_assoc,Nat.mul_comm (prodN (bs.drop (s+1)))]
  rw [e1]
  generalize prodN (bs.take s)=T at *
  generalize prodN (bs.drop (s+1))=P at *
  generalize bs.getD s 0=c at *
  generalize prodN bs=M at *
  have hQ:0 < c*P:=by
   rcases Nat.eq_zero_or_pos (c*P) with h|h
   ·rw [h,Nat.mul_zero] at e2;omega
   ·exact h
  have hm:i % M % P=i % P:=Nat.mod_mod_of_dvd i ⟨T*c,by rw [e2,← Nat.mul_assoc,Nat.mul_comm]⟩
  have hd:i / (c*P)=i / M*T+i % M / (c*P):=by
   have:=split_div (i / M) T (c*P) (i % M) hQ
   rw [← e2,Nat.mul_comm (i / M) M,Nat.div_add_mod] at this
   exact this
  rw [hm,hd,Nat.add_mul,Nat.mul_assoc,Nat.add_assoc]
/-- What a gradient of a sum along a side is spread by. -/
theorem ok_along {a g:Ten} {k:Int} (ha:TenG a) (hE:smE a.1 a.2 k=0) (hg:TenG g) (eg:g.1=smD a.1 a.2 k):
  ∃ s:Nat,k=(s:Int)∧s < a.1.length∧(shpE g.1 g.2 (a.1.set s 1)=0∧shpD g.1 g.2 (a.1.set s 1)=a.1.set s 1∧shpV g.1 g.2 (a.1.set s 1)=g.2)∧TnsG (a.1.set s 1) g.2
   ∧ eachE (a.1.set s 1) g.2 a.1 (List.replicate (prodN (ntl a.1)) 0)=0∧eachD (a.1.set s 1) g.2 a.1 (List.replicate (prodN (ntl a.1)) 0)=a.1∧eachV (fun a b=>Fx.hold (a+b)) (a.1.set s 1) g.2 a.1 (List.replicate (prodN (ntl a.1)) 0)=sprV (ntl a.1) k.toNat g.2:=by
 have hp:smP a.1 a.2 k:=by
  unfold smE at hE
  by_cases h:smP a.1 a.2 k
  ·exact h
  ·rw [if_neg h] at hE;cases hE
 have eg':=eg.trans (if_pos hp)
 obtain ⟨aD,aX⟩:=a
 obtain ⟨gD,gX⟩:=g
 obtain ⟨A,gA,rfl⟩:=good_itl ha.1.1
 have h1:0≤k:=hp.2.1
 have h2:k < ((itl A).length:Int):=hp.2.2
 obtain ⟨s,rfl⟩:∃ s:Nat,k=(s:Int):=⟨k.toNat,by omega⟩
 rw [itl_len] at h2
 have hs:s < A.length:=by omega
 have eg2:gD=itl (lessN A s):=by rw [ntl_itl] at eg';exact eg'
 subst eg2
 have hgl:gX.length=prodN (A.set s 1):=by
  have:=hg.1.2
  rw [ntl_itl] at this
  rw [this,prod_thin A s hs]
 have eset:(itl A).set s 1=itl (A.set s 1):=by
  unfold itl
  rw [List.map_set]
  rfl
 have gT:=good_thin gA s hs
 have pT:isP (itl (A.set s 1)) gX:=isP_itl gT hgl
 have hP:(isP (itl (lessN A s)) gX∧goodN (ntl (itl (A.set s 1))))∧prodN (ntl (itl (A.set s 1)))=gX.length:=⟨⟨hg.1,by rw [ntl_itl];exact gT⟩,by rw [ntl_itl,hgl]⟩
 obtain ⟨hf,hj⟩:=thin_fits gA s hs
 obtain ⟨p1,p2⟩:=join_fine gT gA hf (by rw [hj];exact gA)
 rw [hj] at p1
 have pz:isP (itl A) (List.replicate (prodN (ntl (itl A))) 0):=by
  rw [ntl_itl]
  exact isP_itl gA (by simp)
 refine ⟨s,rfl,by rw [itl_len];exact hs,?_⟩
 show (shpE _ _ ((itl A).set s 1)=0∧shpD _ _ ((itl A).set s 1)=(itl A).set s 1∧shpV _ _ ((itl A).set s 1)=gX)∧TnsG ((itl A).set s 1) gX∧eachE ((itl A).set s 1) gX (itl A) (List.replicate (prodN (ntl (itl A))) 0)=0∧eachD ((itl A).set s 1) gX (itl A) (List.replicate (prodN (ntl (itl A))) 0)=itl A∧eachV _ ((itl A).set s 1) gX (itl A) (List.replicate (prodN (ntl (itl A))) 0)=sprV (ntl (itl A)) ((s:Int).toNat) gX
 rw [eset]
 refine ⟨⟨(if_pos hP.1).trans (if_pos hP.2),if_pos hP,if_pos hP⟩,tnsg pT hg.2.2,(if_pos ⟨pT,pz⟩).trans p2,(if_pos ⟨pT,pz⟩).trans p1,(if_pos ⟨⟨pT,pz⟩,p2⟩).trans ?_⟩
 rw [p1]
 simp only [ntl_itl]
 unfold sprV
 refine List.map_congr_left fun i hi=>?_
 have hi':=List.mem_range.1 hi
 have hz:(List.replicate (prodN A) (0:Int)).getD (fromN A A i) 0=0:=by
  rw [from_same gA i hi',List.getD_eq_getElem?_getD,List.getElem?_replicate,if_pos hi']
  rfl
 rw [hz,Int.add_zero,Fx.hold_in (InR_get hg.2.2 _).1 (InR_get hg.2.2 _).2]
 have hl:(A.set s 1).length=A.length:=List.length_set
 rw [fromN_fr _ _ _ (by rw [hl];exact Nat.le_refl _),padN,hl,Nat.sub_self,List.replicate_zero,List.nil_append,fr_thin A s i gA.2.1 hs hi']
 rfl
/-- Op 10: a number and noughts. -/
theorem total_one (v:Int) (n:Nat) (h:1≤n):totalI ((List.replicate n 0).set 0 v)=v:=by
 unfold totalI
 rw [List.length_set,List.length_replicate]
 have hc:∀ m,m+1≤n→sumI (fun k=>((List.replicate n 0).set 0 v).getD k 0) (m+1)=v:=by
  intro m
  induction m with
  | zero=>
   intro _
   rw [sumI,sumI]
   obtain ⟨q,rfl⟩:∃ q,n=q+1:=⟨n - 1,by omega⟩
   simp [List.replicate_succ]
  | succ m ih=>
   intro hm
   rw [sumI,ih (by omega),List.getD_eq_getElem?_getD,List.getElem?_set,if_neg (by omega),List.getElem?_replicate,if_pos (by omega)]
   simp
 obtain ⟨q,rfl⟩:∃ q,n=q+1:=⟨n - 1,by omega⟩
 exact hc q (Nat.le_refl _)
theorem mean_one (v:Int) (n:Nat) (h:1≤n):meanI ((List.replicate n 0).set 0 v)=Fx.hold (rqI v (n:Int)):=by
 unfold meanI
 rw [total_one v n h,List.length_set,List.length_replicate]
/-- What a node says of the two that it is of. -/
theorem OkP.of {ns:List Nd} (hG:NodesG ns) (hV:NodesV ns) {i:Nat} {nd:Nd} (hi:ns[i]?=some nd) (h1:nd.op≠1) {g:Ten} (hg:TenG g) (eg:g.1=nd.D):OkP nd.op nd.k (aOf ns nd) (bOf ns nd) g∧(2≤nd.op∧nd.op≤14)∧(0≤nd.a∧nd.a < (i:Int))∧(twoP nd.op→0≤nd.b∧nd.b < (i:Int))∧(¬ twoP nd.op→nd.b = -1):=by
 have hl:i < ns.length:=(List.getElem?_eq_some_iff.1 hi).1
 rcases hV i nd hi with h|⟨ho,ha,hb,hb',hE,hD⟩
 ·exact absurd h.1 h1
 refine ⟨⟨hG.at ha.1 (by omega),hg,fun ht=>?_,hE,eg.trans hD⟩,ho,ha,hb,hb'⟩
 have:=hb ht
 show TnsG (dD ns nd.op nd.b) (dX ns nd.op nd.b)
 unfold dD dX
 rw [if_pos ht,if_pos ht]
 exact hG.at this.1 (by omega)
theorem ctimesf_any (p1 q1:Option Addr) (n1 c1 m1 e1:Nat) (p2 q2:Option Addr) (n2 c2 m2 e2:Nat) (p3:Option Addr) (n3 c3:Nat) (g o:Ten) (d:List Int) (hg:TenG g) (ho:TenG o) (hd:RI d) (hE:eachE g.1 g.2 o.1 o.2=0) (hm:TenG (mul2 g o)) (hF:foldE (mul2 g o).1 (mul2 g o).2 d=0) (w:World) (hd1:Nums .i64 w (.slice p1 n1 c1) g.1) (hx1:Nums .i64 w (.slice q1 m1 e1) g.2) (hc1:m1≤e1) (hd2:Nums .i64 w (.slice p2 n2 c2) o.1) (hx2:Nums .i64 w (.slice q2 m2 e2) o.2) (hc2:m2≤e2) (h3:Nums .i64 w (.slice p3 n3 c3) d):
  Calls Tryz.prog 104 #[(.agg #[.slice p1 n1 c1,.slice q1 m1 e1]),(.agg #[.slice p2 n2 c2,.slice q2 m2 e2]),.slice p3 n3 c3] w fun e w'=>∃ v',e = .returned (.tuple #[v',.int .i64 0])∧TRes w' w.heap.size v' (fold2 (mul2 g o) d).1 (fold2 (mul2 g o) d).2∧Below w.heap.size w w':=by
 obtain ⟨M,eM⟩:∃ M,mul2 g o=M:=⟨_,rfl⟩
 have cF:Hid (∀ W,Below w.heap.size w W→Calls Tryz.prog 120 #[(.agg #[.slice p1 n1 c1,.slice q1 m1 e1]),(.agg #[.slice p2 n2 c2,.slice q2 m2 e2])] W fun e w'=>∃ v',e = .returned (.tuple #[v',.int .i64 0])∧TRes w' W.heap.size v' M.1 M.2∧Below W.heap.size W w'):=fun W hW=>by
  have:=tmul_any p1 q1 p2 q2 n1 c1 m1 e1 n2 c2 m2 e2 g.1 g.2 o.1 o.2 hg.2.1 hg.2.2 ho.2.1 ho.2.2 W (hd1.up hW) (hx1.up hW) (hd2.up hW) (hx2.up hW)
  rw [hE] at this
  rw [← eM]
  exact this
 rw [eM] at hm hF ⊢
 have cS:Hid (∀ (W:World) (p q:Option Addr) (n c m e:Nat),Below w.heap.size w W→Nums .i64 W (.slice p n c) M.1→Nums .i64 W (.slice q m e) M.2→m≤e→Calls Tryz.prog 103 #[.agg #[.slice p n c,.slice q m e],.slice p3 n3 c3] W fun e w'=>∃ v',e = .returned (.tuple #[v',.int .i64 0])∧TRes w' W.heap.size v' (fold2 M d).1 (fold2 M d).2∧Below W.heap.size W w'):=fun W p q n c m e hW a1 a2 a3=>by
  have:=tfold_any p q p3 n c m e n3 c3 M.1 M.2 d hm.2.1 hm.2.2 hd W a1 a2 (h3.up hW)
  rw [hF] at this
  exact this
 clear eM hm hF hE hd1 hx1 hc1 hd2 hx2 hc2 h3 hg ho hd
 obtain ⟨R,eR⟩:∃ R,fold2 M d=R:=⟨_,rfl⟩
 rw [eR] at cS ⊢
 clear eR
 go_enter Tryz.func104,Tryz.ntmps104
 go_wp2_with fail
 generalize hW0:World.alloc _ _=W0
 obtain ⟨HB0,XA,XB,XR⟩:=box3 hW0
 clear hW0
 refine (cF.out W0 HB0.out).mono ?_
 rintro e w1 ⟨v1,rfl,⟨s1,t1,rfl,hs,ht⟩,hB1⟩
 obtain ⟨pa,na,ca,rfl⟩:=hs.form_
 obtain ⟨pb,nb,cb,rfl⟩:=ht.form_
 have HB1:=hid2 (bstep HB0.out hB1) hB1
 have HN1:Hid (Nums .i64 w1 (.slice pa na ca) M.1∧Nums .i64 w1 (.slice pb nb cb) M.2∧nb≤cb):=⟨hs.nums,ht.nums,ht.cap⟩
 clear hs ht hB1 cF
 go_wp2_with fail
 generalize hW2:World.alloc _ _=W2
 have B2:Below w1.heap.size w1 W2:=by rw [← hW2];exact up_alloc w1 _
 have HB2:=hid2 (bstep HB1.out.1 B2) (bstep HB1.out.2 B2)
 have HN2:Hid (Nums .i64 W2 (.slice pa na ca) M.1∧Nums .i64 W2 (.slice pb nb cb) M.2∧nb≤cb):=⟨HN1.out.1.up B2,HN1.out.2.1.up B2,HN1.out.2.2⟩
 clear hW2 B2 HN1 HB1
 refine (cS.out W2 pa pb na ca nb cb HB2.out.1 HN2.out.1 HN2.out.2.1 HN2.out.2.2).mono ?_
 rintro e w3 ⟨v3,rfl,⟨s3,t3,rfl,hs,ht⟩,hB3⟩
 obtain ⟨pa3,na3,ca3,rfl⟩:=hs.form_
 obtain ⟨pb3,nb3,cb3,rfl⟩:=ht.form_
 clear cS HN2
 obtain ⟨HF,r0,r1,r2,r3,z0,z1⟩:=fin2 XR HB0 (bstep HB2.out.2 hB3) (hs.low HB2.out.2.size) (ht.low HB2.out.2.size) (by omega)
 clear hs ht hB3 HB2
 go_wp2
 exact bodyPost_ret (v:=.tuple #[.agg #[.slice pa3 na3 ca3,.slice pb3 nb3 cb3],.int .i64 0]) (by simp [results,Tryz.results104,go_sem,z0,z1]) rfl ⟨_,rfl,HF.out⟩
theorem cawayf_any (p1 q1:Option Addr) (n1 c1 m1 e1:Nat) (p3:Option Addr) (n3 c3:Nat) (g:Ten) (d:List Int) (hg:TenG g) (hd:RI d) (hE:scaleE g.1 g.2=0) (hF:foldE (scale2 g (-4294967296)).1 (scale2 g (-4294967296)).2 d=0) (w:World) (hd1:Nums .i64 w (.slice p1 n1 c1) g.1) (hx1:Nums .i64 w (.slice q1 m1 e1) g.2) (hc1:m1≤e1) (h3:Nums .i64 w (.slice p3 n3 c3) d):
  Calls Tryz.prog 114 #[(.agg #[.slice p1 n1 c1,.slice q1 m1 e1]),.slice p3 n3 c3] w fun e w'=>∃ v',e = .returned (.tuple #[v',.int .i64 0])∧TRes w' w.heap.size v' (fold2 (scale2 g (-4294967296)) d).1 (fold2 (scale2 g (-4294967296)) d).2∧Below w.heap.size w w':=by
 obtain ⟨M,eM⟩:∃ M,scale2 g (-4294967296)=M:=⟨_,rfl⟩
 have cF:Hid (∀ W,Below w.heap.size w W→Calls Tryz.prog 105 #[(.agg #[.slice p1 n1 c1,.slice q1 m1 e1]),.int .i64 (-4294967296)] W fun e w'=>∃ v',e = .returned (.tuple #[v',.int .i64 0])∧TRes w' W.heap.size v' M.1 M.2∧Below W.heap.size W w'):=fun W hW=>by
  have:=tscale_any p1 q1 n1 c1 m1 e1 g.1 g.2 hg.2.1 hg.2.2 (-4294967296) (by unfold InR;omega) W (hd1.up hW) (hx1.up hW)
  rw [hE] at this
  rw [← eM]
  exact this
 have hm:TenG M:=by rw [← eM];exact (scale_g2 hg _).1
 rw [eM] at hF ⊢
 have cS:Hid (∀ (W:World) (p q:Option Addr) (n c m e:Nat),Below w.heap.size w W→Nums .i64 W (.slice p n c) M.1→Nums .i64 W (.slice q m e) M.2→m≤e→Calls Tryz.prog 103 #[.agg #[.slice p n c,.slice q m e],.slice p3 n3 c3] W fun e w'=>∃ v',e = .returned (.tuple #[v',.int .i64 0])∧TRes w' W.heap.size v' (fold2 M d).1 (fold2 M d).2∧Below W.heap.size W w'):=fun W p q n c m e hW a1 a2 a3=>by
  have:=tfold_any p q p3 n c m e n3 c3 M.1 M.2 d hm.2.1 hm.2.2 hd W a1 a2 (h3.up hW)
  rw [hF] at this
  exact this
 clear eM hm hF hE hd1 hx1 hc1 h3 hg hd
 obtain ⟨R,eR⟩:∃ R,fold2 M d=R:=⟨_,rfl⟩
 rw [eR] at cS ⊢
 clear eR
 go_enter Tryz.func114,Tryz.ntmps114
 go_wp2_with fail
 generalize hW0:World.alloc _ _=W0
 have HB0:=hidB (w:=w) hW0 (by go_grown)
 have XA:Hid (Cel W0 w.heap.size (.slice p1 n1 c1) (.slice q1 m1 e1)):=celW hW0 (by simp [go_sem])
 have XR:Hid (Cel W0 (w.heap.size+1) (.slice none 0 0) (.slice none 0 0)):=celW hW0 (by simp [go_sem])
 clear hW0
 refine (cF.out W0 HB0.out).mono ?_
 rintro e w1 ⟨v1,rfl,⟨s1,t1,rfl,hs,ht⟩,hB1⟩
 obtain ⟨pa,na,ca,rfl⟩:=hs.form_
 obtain ⟨pb,nb,cb,rfl⟩:=ht.form_
 have HB1:=hid2 (bstep HB0.out hB1) hB1
 have HN1:Hid (Nums .i64 w1 (.slice pa na ca) M.1∧Nums .i64 w1 (.slice pb nb cb) M.2∧nb≤cb):=⟨hs.nums,ht.nums,ht.cap⟩
 clear hs ht hB1 cF
 go_wp2_with fail
 generalize hW2:World.alloc _ _=W2
 have B2:Below w1.heap.size w1 W2:=by rw [← hW2];exact up_alloc w1 _
 have HB2:=hid2 (bstep HB1.out.1 B2) (bstep HB1.out.2 B2)
 have HN2:Hid (Nums .i64 W2 (.slice pa na ca) M.1∧Nums .i64 W2 (.slice pb nb cb) M.2∧nb≤cb):=⟨HN1.out.1.up B2,HN1.out.2.1.up B2,HN1.out.2.2⟩
 clear hW2 B2 HN1 HB1
 refine (cS.out W2 pa pb na ca nb cb HB2.out.1 HN2.out.1 HN2.out.2.1 HN2.out.2.2).mono ?_
 rintro e w3 ⟨v3,rfl,⟨s3,t3,rfl,hs,ht⟩,hB3⟩
 obtain ⟨pa3,na3,ca3,rfl⟩:=hs.form_
 obtain ⟨pb3,nb3,cb3,rfl⟩:=ht.form_
 clear cS HN2
 obtain ⟨HF,r0,r1,r2,r3,z0,z1⟩:=fin2 XR HB0 (bstep HB2.out.2 hB3) (hs.low HB2.out.2.size) (ht.low HB2.out.2.size) (by omega)
 clear hs ht hB3 HB2
 go_wp2
 exact bodyPost_ret (v:=.tuple #[.agg #[.slice pa3 na3 ca3,.slice pb3 nb3 cb3],.int .i64 0]) (by simp [results,Tryz.results114,go_sem,z0,z1]) rfl ⟨_,rfl,HF.out⟩
theorem cspread_any (p1 q1:Option Addr) (n1 c1 m1 e1:Nat) (p2:Option Addr) (n2 c2:Nat) (g:Ten) (d V:List Int) (s:Nat) (hg:TenG g) (gd:goodN (ntl d)) (hs:s < d.length) (hS:shpE g.1 g.2 (d.set s 1)=0∧shpD g.1 g.2 (d.set s 1)=d.set s 1∧shpV g.1 g.2 (d.set s 1)=g.2) (hq:TnsG (d.set s 1) g.2) (hE:eachE (d.set s 1) g.2 d (List.replicate (prodN (ntl d)) 0)=0∧eachD (d.set s 1) g.2 d (List.replicate (prodN (ntl d)) 0)=d∧eachV (fun a b=>Fx.hold (a+b)) (d.set s 1) g.2 d (List.replicate (prodN (ntl d)) 0)=V) (w:World) (hd1:Nums .i64 w (.slice p1 n1 c1) g.1) (hx1:Nums .i64 w (.slice q1 m1 e1) g.2) (h2:Nums .i64 w (.slice p2 n2 c2) d):
  Calls Tryz.prog 108 #[.agg #[.slice p1 n1 c1,.slice q1 m1 e1],.slice p2 n2 c2,.int .i64 (s:Int)] w fun e w'=>∃ v',e = .returned (.tuple #[v',.int .i64 0])∧TRes w' w.heap.size v' d V∧Below w.heap.size w w':=by
 have hl4:d.length≤4:=by have:=gd.1;rw [ntl_len] at this;omega
 obtain ⟨N,eN⟩:∃ N,d.length=N:=⟨_,rfl⟩
 obtain ⟨Z,eZ⟩:∃ Z,List.replicate (prodN (ntl d)) (0:Int)=Z:=⟨_,rfl⟩
 obtain ⟨T,eT⟩:∃ T,d.set s 1=T:=⟨_,rfl⟩
 have rd:RI d:=RI_good gd
 have hz:TnsG d Z:=by rw [← eZ];exact new_g gd (by unfold InR;omega)
 have cC:Hid (∀ W,Below w.heap.size w W→Calls Tryz.prog 75 #[.slice p2 n2 c2] W fun e w'=>∃ v',e = .returned v'∧OwnK .i64 3 w' W.heap.size v' d∧Below W.heap.size W w'):=fun W hW=>cloneI_any _ d (by omega) W (h2.up hW)
 have cF:Hid (∀ W g_ n_ c_,Below w.heap.size w W→Nums .i64 W (.slice g_ n_ c_) T→Calls Tryz.prog 113 #[.agg #[.slice p1 n1 c1,.slice q1 m1 e1],.slice g_ n_ c_] W fun e w'=>∃ v',e = .returned (.tuple #[v',.int .i64 0])∧TRes w' W.heap.size v' T g.2∧Below W.heap.size W w'):=fun W g_ n_ c_ hW hn=>by
  have rt:=hq.2.1
  rw [eT] at hS rt
  have:=treshape_any p1 q1 g_ n1 c1 m1 e1 n_ c_ g.1 g.2 T hg.2.1 rt W (hd1.up hW) (hx1.up hW) hn
  rw [hS.1,hS.2.1,hS.2.2] at this
  exact this
 have cN:Hid (∀ W,Below w.heap.size w W→Calls Tryz.prog 67 #[.slice p2 n2 c2,.int .i64 0] W fun e w'=>∃ v',e = .returned (.tuple #[v',.int .i64 0])∧TRes w' W.heap.size v' d Z∧Below W.heap.size W w'):=fun W hW=>by
  have:=tnew_any (.slice p2 n2 c2) d rd 0 W (h2.up hW)
  rw [show newE d=0 from if_pos gd,show newD d=d from if_pos gd,show newV d 0=Z from (if_pos gd).trans eZ] at this
  exact this
 have cA:Hid (∀ W a_ b_ c_ d_ e_ f_ g_ h_ i_ j_ k_ l_,Nums .i64 W (.slice a_ b_ c_) T→Nums .i64 W (.slice d_ e_ f_) g.2→Nums .i64 W (.slice g_ h_ i_) d→Nums .i64 W (.slice j_ k_ l_) Z→Calls Tryz.prog 90 #[.agg #[.slice a_ b_ c_,.slice d_ e_ f_],.agg #[.slice g_ h_ i_,.slice j_ k_ l_]] W fun e w'=>∃ v',e = .returned (.tuple #[v',.int .i64 0])∧TRes w' W.heap.size v' d V∧Below W.heap.size W w'):=fun W a_ b_ c_ d_ e_ f_ g_ h_ i_ j_ k_ l_ u1 u2 u3 u4=>by
  rw [eT] at hE hq
  rw [eZ] at hE
  have:=tadd_any a_ d_ g_ j_ b_ c_ e_ f_ h_ i_ k_ l_ T g.2 d Z hq.2.1 hq.2.2 hz.2.1 hz.2.2 W u1 u2 u3 u4
  rw [hE.1,hE.2.1,hE.2.2] at this
  exact this
 have HT:Hid (d.set s 1=T):=eT
 rw [eN] at hs
 have HL:Hid (d.length=N):=eN
 have hs':(s:Int) < (N:Int):=by omega
 clear eN eZ eT rd hz hS hq hE hd1 hx1 h2 hg gd hl4
 go_enter Tryz.func108,Tryz.ntmps108
 go_wp2_with fail
 generalize hW0:World.alloc _ _=W0
 have HB0:=hidB (w:=w) hW0 (by go_grown)
 have XA:Hid (Cel W0 w.heap.size (.slice p1 n1 c1) (.slice q1 m1 e1)):=celW hW0 (by simp [go_sem])
 have XR:Hid (Cel W0 (w.heap.size+1) (.slice none 0 0) (.slice none 0 0)):=celW hW0 (by simp [go_sem])
 clear hW0
 refine (cC.out W0 HB0.out).mono ?_
 rintro e w1 ⟨v1,rfl,hO,hB1⟩
 obtain ⟨gq,cq,rfl,hgq⟩:=hO.at (by rw [HL.out];omega)
 rw [HL.out] at hO ⊢
 obtain ⟨hc0,hf0⟩:=hO.cell HL.out s hs
 have hst:OwnK .i64 3 (w1.setCell ⟨gq,s,none⟩ (.int .i64 1)) W0.heap.size (.slice (some ⟨gq,0,none⟩) N cq) T:=by rw [← HT.out];exact hO.store HL.out s 1
 have HS2:Hid (OwnK .i64 3 (w1.setCell ⟨gq,s,none⟩ (.int .i64 1)) W0.heap.size (.slice (some ⟨gq,0,none⟩) N cq) T∧Below W0.heap.size W0 (w1.setCell ⟨gq,s,none⟩ (.int .i64 1))):=⟨hst,hB1.setCell (p:=⟨gq,s,none⟩) hgq _⟩
 have kg:=cell_lt hc0
 obtain ⟨xa0,xa1,_,_⟩:=XA.out.up HS2.out.2
 have kx:=cell_lt xa0
 clear hst hO hB1 cC
 go_wp2_with fail
 generalize hW2:World.setCell _ _ _=W2
 rw [hW2] at HS2 xa0 xa1 kx
 have HB2:=hid2 (bstep HB0.out HS2.out.2) HS2.out.2
 refine (cF.out W2 _ _ _ HB2.out.1 HS2.out.1.nums).mono ?_
 rintro e w3 ⟨v3,rfl,⟨s3,t3,rfl,hs3,ht3⟩,hB3⟩
 obtain ⟨p3,n3,c3,rfl⟩:=hs3.form_
 obtain ⟨q3,m3,e3,rfl⟩:=ht3.form_
 have HB3:=hid2 (bstep HB2.out.1 hB3) (bstep HB2.out.2 hB3)
 have HN3:Hid (Nums .i64 w3 (.slice p3 n3 c3) T∧Nums .i64 w3 (.slice q3 m3 e3) g.2):=⟨hs3.nums,ht3.nums⟩
 clear hs3 ht3 hB3 HB2 HS2 hW2 xa0 xa1 kx kg hc0 hf0 cF hgq
 go_wp2_with fail
 generalize hW4:World.alloc _ _=W4
 have B4:Below w3.heap.size w3 W4:=by rw [← hW4];exact up_alloc w3 _
 have X4:Hid (Cel W4 w3.heap.size (.slice p3 n3 c3) (.slice q3 m3 e3)):=celW hW4 (by simp [go_sem])
 have HB4:=hid2 (bstep HB3.out.1 B4) (bstep HB3.out.2 B4)
 have HN4:Hid (Nums .i64 W4 (.slice p3 n3 c3) T∧Nums .i64 W4 (.slice q3 m3 e3) g.2):=⟨HN3.out.1.up B4,HN3.out.2.up B4⟩
 clear hW4 B4 HB3 HN3
 refine (cN.out W4 HB4.out.1).mono ?_
 rintro e w5 ⟨v5,rfl,⟨s5,t5,rfl,hs5,ht5⟩,hB5⟩
 obtain ⟨p5,n5,c5,rfl⟩:=hs5.form_
 obtain ⟨q5,m5,e5,rfl⟩:=ht5.form_
 have HB5:=hid2 (bstep HB4.out.1 hB5) (bstep HB4.out.2 hB5)
 have X5:Hid (Cel w5 w3.heap.size (.slice p3 n3 c3) (.slice q3 m3 e3)):=X4.out.up hB5
 have HN5:Hid ((Nums .i64 w5 (.slice p3 n3 c3) T∧Nums .i64 w5 (.slice q3 m3 e3) g.2)∧Nums .i64 w5 (.slice p5 n5 c5) d∧Nums .i64 w5 (.slice q5 m5 e5) Z):=⟨⟨HN4.out.1.up hB5,HN4.out.2.up hB5⟩,hs5.nums,ht5.nums⟩
 clear hs5 ht5 hB5 HB4 HN4 X4 cN
 obtain ⟨ya0,ya1,_,_⟩:=X5.out
 have ky:=cell_lt ya0
 go_wp2_with fail
 generalize hW6:World.alloc _ _=W6
 have B6:Below w5.heap.size w5 W6:=by rw [← hW6];exact up_alloc w5 _
 have HB6:=hid2 (bstep HB5.out.1 B6) (bstep HB5.out.2 B6)
 have HN6:Hid ((Nums .i64 W6 (.slice p3 n3 c3) T∧Nums .i64 W6 (.slice q3 m3 e3) g.2)∧Nums .i64 W6 (.slice p5 n5 c5) d∧Nums .i64 W6 (.slice q5 m5 e5) Z):=⟨⟨HN5.out.1.1.up B6,HN5.out.1.2.up B6⟩,HN5.out.2.1.up B6,HN5.out.2.2.up B6⟩
 clear hW6 B6 HB5 HN5 ya0 ya1 ky X5
 refine (cA.out W6 _ _ _ _ _ _ _ _ _ _ _ _ HN6.out.1.1 HN6.out.1.2 HN6.out.2.1 HN6.out.2.2).mono ?_
 rintro e w7 ⟨v7,rfl,⟨s7,t7,rfl,hs,ht⟩,hB7⟩
 obtain ⟨pa3,na3,ca3,rfl⟩:=hs.form_
 obtain ⟨pb3,nb3,cb3,rfl⟩:=ht.form_
 obtain ⟨HF,r0,r1,r2,r3,z0,z1⟩:=fin2 XR HB0 (bstep HB6.out.2 hB7) (hs.low HB6.out.2.size) (ht.low HB6.out.2.size) (by omega)
 clear hs ht hB7 HB6 cA HN6
 go_wp2
 exact bodyPost_ret (v:=.tuple #[.agg #[.slice pa3 na3 ca3,.slice pb3 nb3 cb3],.int .i64 0]) (by simp [results,Tryz.results108,go_sem,z0,z1]) rfl ⟨_,rfl,HF.out⟩
theorem cshared_any (p2:Option Addr) (n2 c2:Nat) (d:List Int) (v:Int) (hv:InR v) (gd:goodN (ntl d)) (w:World) (h2:Nums .i64 w (.slice p2 n2 c2) d):
  Calls Tryz.prog 109 #[.int .i64 v,.slice p2 n2 c2] w fun e w'=>∃ v',e = .returned (.tuple #[v',.int .i64 0])∧TRes w' w.heap.size v' d (List.replicate (prodN (ntl d)) (Fx.hold (rqI v (prodN (ntl d):Int))))∧Below w.heap.size w w':=by
 have rd:RI d:=RI_good gd
 have hN1:1≤prodN (ntl d):=prodN_pos gd.2.1
 obtain ⟨N,eN⟩:∃ N,prodN (ntl d)=N:=⟨_,rfl⟩
 rw [eN] at hN1 ⊢
 have cN:Hid (∀ W x,Below w.heap.size w W→Calls Tryz.prog 67 #[.slice p2 n2 c2,.int .i64 x] W fun e w'=>∃ v',e = .returned (.tuple #[v',.int .i64 0])∧TRes w' W.heap.size v' d (List.replicate N x)∧Below W.heap.size W w'):=fun W x hW=>by
  have:=tnew_any (.slice p2 n2 c2) d rd x W (h2.up hW)
  rw [show newE d=0 from if_pos gd,show newD d=d from if_pos gd,show newV d x=List.replicate N x from (if_pos gd).trans (by rw [eN])] at this
  exact this
 obtain ⟨Y,eY⟩:∃ Y,(List.replicate N (0:Int)).set 0 v=Y:=⟨_,rfl⟩
 have HY:Hid ((List.replicate N (0:Int)).set 0 v=Y):=eY
 obtain ⟨H,eH⟩:∃ H,Fx.hold (rqI v (N:Int))=H:=⟨_,rfl⟩
 have cM:Hid (∀ W a_ b_ c_ d_ e_ f_,Nums .i64 W (.slice a_ b_ c_) d→Nums .i64 W (.slice d_ e_ f_) Y→Calls Tryz.prog 125 #[.agg #[.slice a_ b_ c_,.slice d_ e_ f_]] W fun e w'=>e = .returned (.tuple #[.int .i64 H,.int .i64 0])∧Below W.heap.size W w'):=fun W a_ b_ c_ d_ e_ f_ u1 u2=>by
  have ry:RI Y:=by
   rw [← eY]
   intro y hy
   rcases List.mem_or_eq_of_mem_set hy with h|h
   ·rw [List.eq_of_mem_replicate h];omega
   ·rw [h];exact hv
  have py:isP d Y:=⟨gd,by rw [← eY,List.length_set,List.length_replicate,eN]⟩
  have:=mean_any a_ d_ b_ c_ e_ f_ d Y rd ry W u1 u2
  rw [show matE d Y=0 from if_pos py,show meanV d Y=H from (if_pos py).trans (by rw [← eY,mean_one v N hN1,eH])] at this
  exact this
 rw [eH]
 have hl0:(List.replicate N (0:Int)).length=N:=List.length_replicate
 have HL:Hid ((List.replicate N (0:Int)).length=N):=hl0
 obtain ⟨Z,eZ⟩:∃ Z,List.replicate N (0:Int)=Z:=⟨_,rfl⟩
 have HZ:Hid (List.replicate N (0:Int)=Z):=eZ
 rw [eZ] at HY HL
 have hN0:(0:Int) < (N:Int):=by omega
 clear eN eY eH eZ hl0 rd gd h2 hv
 go_enter Tryz.func109,Tryz.ntmps109
 go_wp2_with fail
 generalize hW0:World.alloc _ _=W0
 have HB0:=hidB (w:=w) hW0 (by go_grown)
 have XR:Hid (Cel W0 w.heap.size (.slice none 0 0) (.slice none 0 0)):=celW hW0 (by simp [go_sem])
 clear hW0
 refine (cN.out W0 0 HB0.out).mono ?_
 rintro e w1 ⟨v1,rfl,⟨s1,t1,rfl,hs1,ht1⟩,hB1⟩
 obtain ⟨p1,n1,c1,rfl⟩:=hs1.form_
 rw [HZ.out] at ht1
 obtain ⟨gq,cq,rfl,hgq⟩:=ht1.at (by rw [HL.out];omega)
 rw [HL.out] at ht1 ⊢
 have hoff:Off gq (.slice p1 n1 c1):=by
  obtain ⟨cs,fz,hob⟩:=ht1.obj
  exact hs1.off_type hob (by decide)
 obtain ⟨hc0,hf0⟩:=ht1.cell HL.out 0 (by omega)
 have kg:=cell_lt hc0
 have HS:Hid (Nums .i64 (w1.setCell ⟨gq,0,none⟩ (.int .i64 v)) (.slice p1 n1 c1) d∧Nums .i64 (w1.setCell ⟨gq,0,none⟩ (.int .i64 v)) (.slice (some ⟨gq,0,none⟩) N cq) Y∧Below W0.heap.size W0 (w1.setCell ⟨gq,0,none⟩ (.int .i64 v))):=by
  refine ⟨hs1.nums.stay ((Stay.refl gq _).set 0 _) hoff,?_,hB1.setCell (p:=⟨gq,0,none⟩) hgq _⟩
  have:=(ht1.store HL.out 0 v).nums
  rw [HY.out] at this
  exact this
 clear hs1 ht1 hB1 hoff
 go_wp2_with fail
 generalize hW2:World.alloc _ _=W2
 have B2:Below (w1.setCell ⟨gq,0,none⟩ (.int .i64 v)).heap.size (w1.setCell ⟨gq,0,none⟩ (.int .i64 v)) W2:=by rw [← hW2];exact up_alloc _ _
 have HB2:=hid2 (bstep HB0.out (bstep HS.out.2.2 B2)) (bstep HS.out.2.2 B2)
 have HN2:Hid (Nums .i64 W2 (.slice p1 n1 c1) d∧Nums .i64 W2 (.slice (some ⟨gq,0,none⟩) N cq) Y):=⟨HS.out.1.up B2,HS.out.2.1.up B2⟩
 clear hW2 B2 HS kg hc0 hf0
 refine (cM.out W2 _ _ _ _ _ _ HN2.out.1 HN2.out.2).mono ?_
 rintro e w3 ⟨rfl,hB3⟩
 have HB3:=hid2 (bstep HB2.out.1 hB3) (bstep HB2.out.2 hB3)
 clear hB3 HB2 cM HN2
 go_wp2_with fail
 refine (cN.out w3 H HB3.out.1).mono ?_
 rintro e w7 ⟨v7,rfl,⟨s7,t7,rfl,hs,ht⟩,hB7⟩
 obtain ⟨pa3,na3,ca3,rfl⟩:=hs.form_
 obtain ⟨pb3,nb3,cb3,rfl⟩:=ht.form_
 obtain ⟨HF,r0,r1,r2,r3,z0,z1⟩:=fin2 XR HB0 (bstep HB3.out.2 hB7) (hs.low HB3.out.2.size) (ht.low HB3.out.2.size) (by omega)
 clear hs ht hB7 HB3 cN
 go_wp2
 exact bodyPost_ret (v:=.tuple #[.agg #[.slice pa3 na3 ca3,.slice pb3 nb3 cb3],.int .i64 0]) (by simp [results,Tryz.results109,go_sem,z0,z1]) rfl ⟨_,rfl,HF.out⟩
end Go.Proofs.YtjlofobnmjompaaGreatDoor.Wd
