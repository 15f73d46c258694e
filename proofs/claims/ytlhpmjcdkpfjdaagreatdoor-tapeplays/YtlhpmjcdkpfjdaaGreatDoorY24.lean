/- The reference's numbers, by what they stand for: sums, products, rounding. · The reference's numbers, word by word: what From and Plus hand back, as one value each. · The reference's numbers, each call's value told ahead of the world; a number that lies in a block. -/
import Derived.Test.YtlhpmjcdkpfjdaaGreatDoorY20
import Derived.Test.YtlhpmjcdkpfjdaaGreatDoorY05
import Derived.Test.YtlhpmjcdkpfjdaaGreatDoorY18
import Derived.Test.YtlhpmjcdkpfjdaaGreatDoorY00
import Derived.Test.YtlhpmjcdkpfjdaaGreatDoorY03
set_option linter.unusedVariables false
set_option linter.unusedSimpArgs false
set_option maxHeartbeats 16000000
set_option maxRecDepth 16000
namespace Go.Proofs.YtlhpmjcdkpfjdaaGreatDoor.Rf
open Go.RowKit Fx
/-- The number that a value stands for. -/
def IsS (v:Value) (S:Int):Prop:=∃ s x,IsN v s x∧sv s x=S
theorem abs_of {v:Value} {s:Bool} {x S:Int} (h:IsN v s x) (e:sv s x=S):x=(S.natAbs:Int):=by
 have:=h.rng
 unfold sv at e
 cases s <;> simp at e <;> omega
theorem zeroS:IsS (.agg #[.bool false,.int .u64 0,.int .u64 0,.int .u64 0,.int .u64 0]) 0:=⟨false,0,⟨0,0,0,0,rfl,by unfold U;omega,by unfold U;omega,by unfold U;omega,by unfold U;omega,by rw [PS4];rfl⟩,rfl⟩
theorem IsS.agg {v:Value} {S:Int} (h:IsS v S):∃ s a0 a1 a2 a3,v = .agg #[.bool s,.int .u64 a0,.int .u64 a1,.int .u64 a2,.int .u64 a3]∧IsS (.agg #[.bool s,.int .u64 a0,.int .u64 a1,.int .u64 a2,.int .u64 a3]) S:=by
 have h':=h
 obtain ⟨s,x,⟨a0,a1,a2,a3,rfl,_⟩,_⟩:=h
 exact ⟨s,a0,a1,a2,a3,rfl,h'⟩
theorem sv_prod (a b:Int):sv (Fx.differ a b) ((a.natAbs*b.natAbs:Nat):Int)=a*b:=by
 rw [Int.natCast_mul]
 obtain ⟨x,ex⟩:∃ x:Int,(a.natAbs:Int)=x:=⟨_,rfl⟩
 obtain ⟨y,ey⟩:∃ y:Int,(b.natAbs:Int)=y:=⟨_,rfl⟩
 rw [ex,ey]
 unfold sv Fx.differ
 by_cases h1:a < 0 <;> by_cases h2:b < 0 <;> simp only [h1,h2,decide_true,decide_false]
 ·rw [show x = -a by omega,show y = -b by omega]
  exact Int.neg_mul_neg a b
 ·rw [show x = -a by omega,show y=b by omega]
  show -(-a*b)=_
  rw [Int.neg_mul,Int.neg_neg]
 ·rw [show x=a by omega,show y = -b by omega]
  show -(a*-b)=_
  rw [Int.mul_neg,Int.neg_neg]
 ·rw [show x=a by omega,show y=b by omega]
  rfl
theorem sv_rq (s:Bool) (x d:Int) (hd:0 < d):sv s (rqI x d)=Wd.rqI (sv s x) d:=by
 unfold sv
 cases s
 ·rfl
 ·exact (Wd.rqI_neg x d hd).symm
theorem heldS (v:Value) (S:Int) (hv:IsS v S) (w:World):
  Calls Tryz.prog 133 #[v] w fun e w'=>e = .returned (.int .i64 (hold S))∧Below w.heap.size w w':=by
 obtain ⟨s,x,h1,h2⟩:=hv
 rw [← h2]
 exact held_ref v s x h1 w
def nv (s:Bool) (x:Int):Value:=.agg #[.bool s,.int .u64 (x % 18446744073709551616),.int .u64 (x / 18446744073709551616 % 18446744073709551616),.int .u64 (x / 340282366920938463463374607431768211456 % 18446744073709551616),.int .u64 (x / 6277101735386680763835789423207666416102355444464034512896 % 18446744073709551616)]
theorem IsN.nv {v:Value} {s:Bool} {x:Int} (h:IsN v s x):v=nv s x:=by
 obtain ⟨a0,a1,a2,a3,rfl,p0,p1,p2,p3,hX⟩:=h
 rw [PS4] at hX
 unfold U at *
 unfold Rf.nv
 have e0:x % 18446744073709551616=a0:=by omega
 have e1:x / 18446744073709551616 % 18446744073709551616=a1:=by omega
 have e2:x / 340282366920938463463374607431768211456 % 18446744073709551616=a2:=by omega
 have e3:x / 6277101735386680763835789423207666416102355444464034512896 % 18446744073709551616=a3:=by omega
 rw [e0,e1,e2,e3]
/-- The words of a number. -/
theorem nv_words (s:Bool) (x:Int) (h0:0≤x) (h:x < 115792089237316195423570985008687907853269984665640564039457584007913129639936):
  ∃ a0 a1 a2 a3:Int,nv s x = .agg #[.bool s,.int .u64 a0,.int .u64 a1,.int .u64 a2,.int .u64 a3]∧IsN (.agg #[.bool s,.int .u64 a0,.int .u64 a1,.int .u64 a2,.int .u64 a3]) s x:=by
 refine ⟨_,_,_,_,rfl,_,_,_,_,rfl,?_,?_,?_,?_,?_⟩
 ·unfold U;omega
 ·unfold U;omega
 ·unfold U;omega
 ·unfold U;omega
 ·rw [PS4];omega
def pls (s:Bool) (x:Int) (t:Bool) (y:Int):Bool×Int:=if s=t then (s,x+y) else if x < y then (t,y - x) else (s,x - y)
theorem pls_sv (s:Bool) (x:Int) (t:Bool) (y:Int):sv (pls s x t y).1 (pls s x t y).2=sv s x+sv t y:=by
 unfold pls sv
 cases s <;> cases t <;> simp <;> (try split) <;> (try simp) <;> omega
theorem pls_le (s:Bool) (x:Int) (t:Bool) (y:Int) (hx:0≤x) (hy:0≤y):0≤(pls s x t y).2∧(pls s x t y).2≤x+y:=by
 unfold pls
 split
 ·simp;omega
 ·split <;> simp <;> omega
theorem plus_nv (v u:Value) (s t:Bool) (x y:Int) (hv:IsN v s x) (hu:IsN u t y) (hxy:x+y < 115792089237316195423570985008687907853269984665640564039457584007913129639936) (w:World):
  Calls Tryz.prog 131 #[v,u] w fun e w'=>e = .returned (nv (pls s x t y).1 (pls s x t y).2)∧Below w.heap.size w w':=by
 have hx:=hv.rng
 have hy:=hu.rng
 obtain ⟨a0,a1,a2,a3,rfl,p0,p1,p2,p3,hX⟩:=hv
 obtain ⟨b0,b1,b2,b3,rfl,q0,q1,q2,q3,hY⟩:=hu
 by_cases hst:s=t
 ·subst hst
  refine (Plus_same s a0 a1 a2 a3 b0 b1 b2 b3 p0 p1 p2 p3 q0 q1 q2 q3 w).mono ?_
  rintro e w' ⟨c0,c1,c2,c3,cr,rfl,u0,u1,u2,u3,hinv,hb⟩
  refine ⟨?_,hb⟩
  have:pls s x s y=(s,x+y):=by simp [pls]
  rw [this]
  refine congrArg Ending.returned (IsN.nv ⟨c0,c1,c2,c3,rfl,u0,u1,u2,u3,?_⟩)
  have h:=hinv.out
  rw [hX,hY,BP4] at h
  have hc:0≤PS 4 c0 c1 c2 c3:=by rw [PS4];unfold U at *;omega
  omega
 ·have hst':(s==t)=false:=by simpa using hst
  by_cases hlt:x < y
  ·refine (Plus_lt s t hst' a0 a1 a2 a3 b0 b1 b2 b3 p0 p1 p2 p3 q0 q1 q2 q3 (by show decide _=true;rw [hX,hY];simpa using hlt) w).mono ?_
   rintro e w' ⟨c0,c1,c2,c3,cr,rfl,u0,u1,u2,u3,hinv,hb⟩
   refine ⟨?_,hb⟩
   have:pls s x t y=(t,y - x):=by simp [pls,hst,hlt]
   rw [this]
   refine congrArg Ending.returned (IsN.nv ⟨c0,c1,c2,c3,rfl,u0,u1,u2,u3,?_⟩)
   have h:=hinv.out
   rw [hX,hY,BP4] at h
   have hc:PS 4 c0 c1 c2 c3 < 115792089237316195423570985008687907853269984665640564039457584007913129639936:=by rw [PS4];unfold U at *;omega
   omega
  ·refine (Plus_ge s t hst' a0 a1 a2 a3 b0 b1 b2 b3 p0 p1 p2 p3 q0 q1 q2 q3 (by show decide _=false;rw [hX,hY];simpa using hlt) w).mono ?_
   rintro e w' ⟨c0,c1,c2,c3,cr,rfl,u0,u1,u2,u3,hinv,hb⟩
   refine ⟨?_,hb⟩
   have:pls s x t y=(s,x - y):=by simp [pls,hst,hlt]
   rw [this]
   refine congrArg Ending.returned (IsN.nv ⟨c0,c1,c2,c3,rfl,u0,u1,u2,u3,?_⟩)
   have h:=hinv.out
   rw [hX,hY,BP4] at h
   have hc:PS 4 c0 c1 c2 c3 < 115792089237316195423570985008687907853269984665640564039457584007913129639936:=by rw [PS4];unfold U at *;omega
   omega
theorem from_nv (n:Int) (hn:InR n) (w:World):
  Calls Tryz.prog 138 #[.int .i64 n] w fun e w'=>e = .returned (nv (decide (n < 0)) (n.natAbs:Int))∧Below w.heap.size w w':=
 (from_any n hn w).mono fun e w' ⟨v,he,hv,hb⟩=>⟨by rw [he,hv.nv],hb⟩
theorem plusD {v u:Value} {S T:Int} (hv:IsS v S) (hu:IsS u T) (hb:(S.natAbs:Int)+(T.natAbs:Int) < 115792089237316195423570985008687907853269984665640564039457584007913129639936):
  ∃ z,IsS z (S+T)∧∀ W,Calls Tryz.prog 131 #[v,u] W fun e w'=>e = .returned z∧Below W.heap.size W w':=by
 obtain ⟨s,x,h1,h2⟩:=hv
 obtain ⟨t,y,h3,h4⟩:=hu
 have hx:=abs_of h1 h2
 have hy:=abs_of h3 h4
 have hl:=pls_le s x t y (by omega) (by omega)
 obtain ⟨a0,a1,a2,a3,e,hN⟩:=nv_words (pls s x t y).1 (pls s x t y).2 hl.1 (by omega)
 refine ⟨nv (pls s x t y).1 (pls s x t y).2,⟨_,_,by rw [e];exact hN,by rw [pls_sv,h2,h4]⟩,fun W=>?_⟩
 exact plus_nv v u s t x y h1 h3 (by omega) W
theorem timesD {a b:Int} (ha:InR a) (hb:InR b):∃ z,IsS z (a*b)∧∀ W,Calls Tryz.prog 132 #[.int .i64 a,.int .i64 b] W fun e w'=>e = .returned z∧Below W.heap.size W w':=by
 have hp:=Wd.prod_rng ha hb
 have hm:(((a.natAbs*b.natAbs:Nat):Int)) < 115792089237316195423570985008687907853269984665640564039457584007913129639936:=by
  rw [← Int.natAbs_mul]
  omega
 obtain ⟨a0,a1,a2,a3,e,hN⟩:=nv_words (Fx.differ a b) ((a.natAbs*b.natAbs:Nat):Int) (by omega) hm
 refine ⟨nv (Fx.differ a b) ((a.natAbs*b.natAbs:Nat):Int),⟨_,_,by rw [e];exact hN,sv_prod a b⟩,fun W=>?_⟩
 refine (times_any a b ha hb W).mono ?_
 rintro e w' ⟨z,rfl,h5,h7⟩
 exact ⟨by rw [h5.nv],h7⟩
theorem fromD {a:Int} (ha:InR a):∃ z,IsS z a∧∀ W,Calls Tryz.prog 138 #[.int .i64 a] W fun e w'=>e = .returned z∧Below W.heap.size W w':=by
 obtain ⟨a0,a1,a2,a3,e,hN⟩:=nv_words (decide (a < 0)) (a.natAbs:Int) (by omega) (by unfold InR at ha;omega)
 exact ⟨nv (decide (a < 0)) (a.natAbs:Int),⟨_,_,by rw [e];exact hN,sv_from a⟩,fun W=>from_nv a ha W⟩
theorem halvedD {v:Value} {S:Int} (hv:IsS v S):∃ z,IsS z (Wd.rqI S 4294967296)∧∀ W,Calls Tryz.prog 134 #[v,.int .i64 32] W fun e w'=>e = .returned z∧Below W.heap.size W w':=by
 obtain ⟨s,x,h1,h2⟩:=hv
 have hx:=h1.rng
 have hq:0≤rqI x 4294967296∧rqI x 4294967296 < 115792089237316195423570985008687907853269984665640564039457584007913129639936:=by
  unfold rqI
  split <;> omega
 obtain ⟨a0,a1,a2,a3,e,hN⟩:=nv_words s (rqI x 4294967296) hq.1 hq.2
 refine ⟨nv s (rqI x 4294967296),⟨_,_,by rw [e];exact hN,by rw [sv_rq _ _ _ (by omega),h2]⟩,fun W=>?_⟩
 refine (halved_any v s x h1 W).mono ?_
 rintro e w' ⟨z,rfl,h5,h7⟩
 exact ⟨by rw [h5.nv],h7⟩
theorem dividedD {v:Value} {S n:Int} (hv:IsS v S) (hn:InR n) (h0:0 < n):∃ z,IsS z (Wd.rqI S n)∧∀ W,Calls Tryz.prog 140 #[v,.int .i64 n] W fun e w'=>e = .returned z∧Below W.heap.size W w':=by
 obtain ⟨s,x,h1,h2⟩:=hv
 have hx:=h1.rng
 have h3:x / n≤x:=Int.ediv_le_self _ hx.1
 have h4:0≤x / n:=Int.ediv_nonneg hx.1 (by omega)
 have hq:0≤rqI x n∧rqI x n < 115792089237316195423570985008687907853269984665640564039457584007913129639936:=by
  unfold rqI
  split
  ·rename_i hc
   have h5:0 < x % n:=by
    have:=Int.emod_nonneg x (show n≠0 by omega)
    omega
   have h6:=Int.mul_ediv_add_emod x n
   have h7:x / n*1≤x / n*n:=Int.mul_le_mul_of_nonneg_left (by omega) h4
   rw [Int.mul_comm] at h6
   omega
  ·omega
 obtain ⟨a0,a1,a2,a3,e,hN⟩:=nv_words s (rqI x n) hq.1 hq.2
 refine ⟨nv s (rqI x n),⟨_,_,by rw [e];exact hN,by rw [sv_rq _ _ _ h0,h2]⟩,fun W=>?_⟩
 refine (divided_any v s x n h1 hn (by omega) W).mono ?_
 rintro e w' ⟨z,rfl,h5,h7⟩
 rw [show decide (n < 0)=false from decide_eq_false (by omega),Bool.bne_false,show ((n.natAbs:Nat):Int)=n by omega] at h5
 exact ⟨by rw [h5.nv],h7⟩
end Go.Proofs.YtlhpmjcdkpfjdaaGreatDoor.Rf
namespace Go.Proofs.YtlhpmjcdkpfjdaaGreatDoor.Wd
open Go.RowKit Fx
/-- One of the reference's numbers in the five cells of a block, which may be written. -/
def LiesS (W:World) (b:Nat) (S:Int):Prop:=
 ∃ (r:Bool) (a0 a1 a2 a3:Int),b < W.heap.size∧W.cell? ⟨b,0,none⟩=some (.bool r)∧W.cell? ⟨b,1,none⟩=some (.int .u64 a0)∧W.cell? ⟨b,2,none⟩=some (.int .u64 a1)∧W.cell? ⟨b,3,none⟩=some (.int .u64 a2)∧W.cell? ⟨b,4,none⟩=some (.int .u64 a3)∧
  W.frozen? ⟨b,0,none⟩=false∧W.frozen? ⟨b,1,none⟩=false∧W.frozen? ⟨b,2,none⟩=false∧W.frozen? ⟨b,3,none⟩=false∧W.frozen? ⟨b,4,none⟩=false∧Rf.IsS (.agg #[.bool r,.int .u64 a0,.int .u64 a1,.int .u64 a2,.int .u64 a3]) S
theorem LiesS.up {W W':World} {b:Nat} {S:Int} (h:LiesS W b S) (hb:Below W.heap.size W W'):LiesS W' b S:=by
 obtain ⟨r,a0,a1,a2,a3,h0,c0,c1,c2,c3,c4,f0,f1,f2,f3,f4,hN⟩:=h
 exact ⟨r,a0,a1,a2,a3,Nat.lt_of_lt_of_le h0 hb.size,keep hb c0,keep hb c1,keep hb c2,keep hb c3,keep hb c4,keepf hb c0 f0,keepf hb c1 f1,keepf hb c2 f2,keepf hb c3 f3,keepf hb c4 f4,hN⟩
theorem LiesS.set {W:World} {b:Nat} {S S':Int} {r':Bool} {t0 t1 t2 t3:Int} (h:LiesS W b S) (hN:Rf.IsS (.agg #[.bool r',.int .u64 t0,.int .u64 t1,.int .u64 t2,.int .u64 t3]) S'):
  LiesS (((((W.setCell ⟨b,0,none⟩ (.bool r')).setCell ⟨b,1,none⟩ (.int .u64 t0)).setCell ⟨b,2,none⟩ (.int .u64 t1)).setCell ⟨b,3,none⟩ (.int .u64 t2)).setCell ⟨b,4,none⟩ (.int .u64 t3)) b S':=by
 obtain ⟨r,a0,a1,a2,a3,h0,c0,c1,c2,c3,c4,f0,f1,f2,f3,f4,_⟩:=h
 obtain ⟨g0,g1,g2,g3,g4⟩:=Rf.five W b (.bool r') (.int .u64 t0) (.int .u64 t1) (.int .u64 t2) (.int .u64 t3) c0 c1 c2 c3 c4
 exact ⟨r',t0,t1,t2,t3,by rw [set5_size];exact h0,g0,g1,g2,g3,g4,(set5_frozen _ _ _ _ _ _ _ _).trans f0,(set5_frozen _ _ _ _ _ _ _ _).trans f1,(set5_frozen _ _ _ _ _ _ _ _).trans f2,(set5_frozen _ _ _ _ _ _ _ _).trans f3,(set5_frozen _ _ _ _ _ _ _ _).trans f4,hN⟩
theorem stay_set5 {g:Nat} (W:World) (x0 x1 x2 x3 x4:Value):Stay g W (((((W.setCell ⟨g,0,none⟩ x0).setCell ⟨g,1,none⟩ x1).setCell ⟨g,2,none⟩ x2).setCell ⟨g,3,none⟩ x3).setCell ⟨g,4,none⟩ x4):=(((((Stay.refl g W).set 0 x0).set 1 x1).set 2 x2).set 3 x3).set 4 x4
theorem liesS_new (W:World) (t:TypeId):LiesS (W.alloc (.cells #[.bool false,.int .u64 0,.int .u64 0,.int .u64 0,.int .u64 0] t)) W.heap.size 0:=by
 refine ⟨false,0,0,0,0,by simp,by simp [go_sem],by simp [go_sem],by simp [go_sem],by simp [go_sem],by simp [go_sem],by simp [go_sem],by simp [go_sem],by simp [go_sem],by simp [go_sem],by simp [go_sem],Rf.zeroS⟩
theorem LiesS.stay {g:Nat} {W W':World} {b:Nat} {S:Int} (h:LiesS W b S) (hs:Stay g W W') (hg:b≠g):LiesS W' b S:=by
 obtain ⟨r,a0,a1,a2,a3,h0,c0,c1,c2,c3,c4,f0,f1,f2,f3,f4,hN⟩:=h
 exact ⟨r,a0,a1,a2,a3,Nat.lt_of_lt_of_le h0 hs.size,hs.cell c0 hg,hs.cell c1 hg,hs.cell c2 hg,hs.cell c3 hg,hs.cell c4 hg,(hs.frozen h0 hg).trans f0,(hs.frozen h0 hg).trans f1,(hs.frozen h0 hg).trans f2,(hs.frozen h0 hg).trans f3,(hs.frozen h0 hg).trans f4,hN⟩
theorem prods_room2 {x y:List Int} (hx:RI x) (hy:RI y) (i j:Nat→Nat) (n:Nat) (hn:n≤4096) (a b:Int) (ha:InR a) (hb:InR b):((sumI (fun q=>x.getD (i q) 0*y.getD (j q) 0) n).natAbs:Int)+((a*b).natAbs:Int) < 115792089237316195423570985008687907853269984665640564039457584007913129639936:=
 prods_room (f:=fun q=>x.getD (i q) 0) (g:=fun q=>y.getD (j q) 0) (fun k=>getD_inR hx _) (fun k=>getD_inR hy _) n hn a b ha hb
theorem sums_room {x:List Int} (hx:RI x) (i:Nat→Nat) (n:Nat) (hn:n≤4096) (a:Int) (ha:InR a):((sumI (fun q=>x.getD (i q) 0) n).natAbs:Int)+(a.natAbs:Int) < 115792089237316195423570985008687907853269984665640564039457584007913129639936:=by
 have h1:=sumI_rng (f:=fun q=>x.getD (i q) 0) (B:=9223372036854775808) (by omega) n fun q _=>by have:=getD_inR hx (i q);unfold InR at this;omega
 generalize sumI (fun q=>x.getD (i q) 0) n=S at *
 unfold InR at ha
 omega
end Go.Proofs.YtlhpmjcdkpfjdaaGreatDoor.Wd
