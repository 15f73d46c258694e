/- The reference's numbers, by what they st -/
import Derived.Test.YtkfpainpomobfaaGreatDoorR26
import Derived.Test.YtkfpainpomobfaaGreatDoorR28
set_option linter.unusedVariables false
set_option linter.unusedSimpArgs false
set_option maxHeartbeats 16000000
set_option maxRecDepth 16000
namespace Go.Proofs.YtkfpainpomobfaaGreatDoor.Rf
open Go.RowKit Fx List World Nat
/-- The number that a value stands for. -/
def IsS (v:Value) (S:Int):Prop:=∃ s x,IsN v s x/\sv s x=S
theorem q_r {v:Value} {s:Bool} {x S:Int} (h:IsN v s x) (e:sv s x=S):x=(S.natAbs:Int):=by
 have:=h.rng;unfold sv at e;cases s <;> simp at e <;> omega
theorem zeroS:IsS (.agg #[.bool false,.int .u64 0,.int .u64 0,.int .u64 0,.int .u64 0]) 0:=⟨false,0,⟨0,0,0,0,rfl,by unfold U;omega,by unfold U;omega,by unfold U;omega,by unfold U;omega,by rw [PS4];rfl⟩,rfl⟩
theorem IsS.agg {v:Value} {S:Int} (h:IsS v S):∃ s E A I H,v = .agg #[.bool s,.int .u64 E,.int .u64 A,.int .u64 I,.int .u64 H]/\IsS (.agg #[.bool s,.int .u64 E,.int .u64 A,.int .u64 I,.int .u64 H]) S:=by
 have J:=h;obtain ⟨s,x,⟨E,A,I,H,rfl,_⟩,_⟩:=h;exact ⟨s,E,A,I,H,rfl,J⟩
theorem r_V (a b:Int):sv (Fx.differ a b) ((a.natAbs*b.natAbs:Nat):Int)=a*b:=by
 rw [Int.natCast_mul];obtain ⟨x,I⟩:∃ x:Int,(a.natAbs:Int)=x:=⟨_,rfl⟩
 obtain ⟨y,H⟩:∃ y:Int,(b.natAbs:Int)=y:=⟨_,rfl⟩
 rw [I,H];unfold sv Fx.differ;by_cases A:a < 0 <;> by_cases E:b < 0 <;> simp only [A,E,decide_true,decide_false]
 ·rw [show x = -a by omega,show y = -b by omega];exact Int.neg_mul_neg a b
 ·rw [show x = -a by omega,show y=b by omega];show -(-a*b)=_;rw [Int.neg_mul,Int.neg_neg]
 ·rw [show x=a by omega,show y = -b by omega];show -(a*-b)=_;rw [Int.mul_neg,Int.neg_neg]
 ·rw [show x=a by omega,show y=b by omega];rfl
theorem u_o (s:Bool) (x d:Int) (A:0 < d):sv s (rqI x d)=Wd.rqI (sv s x) d:=by
 unfold sv;cases s
 ·rfl
 ·exact (Wd.rqI_neg x d A).symm
theorem heldS (v:Value) (S:Int) (A:IsS v S) (w:World):
  Calls Tryz.prog 102 #[v] w fun e I=>e = .returned (.int .i64 (hold S))/\Below w.heap.size w I:=by
 obtain ⟨s,x,E,H⟩:=A;rw [<- H];exact d_4 v s x E w
def nv (s:Bool) (x:Int):Value:=.agg #[.bool s,.int .u64 (x % 18446744073709551616),.int .u64 (x / 18446744073709551616 % 18446744073709551616),.int .u64 (x / 340282366920938463463374607431768211456 % 18446744073709551616),.int .u64 (x / 6277101735386680763835789423207666416102355444464034512896 % 18446744073709551616)]
theorem IsN.nv {v:Value} {s:Bool} {x:Int} (h:IsN v s x):v=nv s x:=by
 obtain ⟨E,J,O,H,rfl,p0,p1,V,Z,R⟩:=h;rw [PS4] at R;unfold U at *;unfold Rf.nv;have A:x % 18446744073709551616=E:=by omega
 have L:x / 18446744073709551616 % 18446744073709551616=J:=by omega
 have M:x / 340282366920938463463374607431768211456 % 18446744073709551616=O:=by omega
 have I:x / 6277101735386680763835789423207666416102355444464034512896 % 18446744073709551616=H:=by omega
 rw [A,L,M,I]
/-- The words of a number. -/
theorem f_G (s:Bool) (x:Int) (J:0<=x) (h:x < 115792089237316195423570985008687907853269984665640564039457584007913129639936):
  ∃ E A I H:Int,nv s x = .agg #[.bool s,.int .u64 E,.int .u64 A,.int .u64 I,.int .u64 H]/\IsN (.agg #[.bool s,.int .u64 E,.int .u64 A,.int .u64 I,.int .u64 H]) s x:=by
 refine ⟨_,_,_,_,rfl,_,_,_,_,rfl,?_,?_,?_,?_,?_⟩
 ·unfold U;omega
 ·unfold U;omega
 ·unfold U;omega
 ·unfold U;omega
 ·rw [PS4];omega
def pls (s:Bool) (x:Int) (t:Bool) (y:Int):Bool×Int:=if s=t then (s,x+y) else if x < y then (t,y - x) else (s,x - y)
theorem t_e (s:Bool) (x:Int) (t:Bool) (y:Int):sv (pls s x t y).1 (pls s x t y).2=sv s x+sv t y:=by
 unfold pls sv;cases s <;> cases t <;> simp <;> (try split) <;> (try simp) <;> omega
theorem t_f (s:Bool) (x:Int) (t:Bool) (y:Int) (A:0<=x) (E:0<=y):0<=(pls s x t y).2/\(pls s x t y).2<=x+y:=by
 unfold pls
 split
 ·simp;omega
 ·split <;> simp <;> omega
theorem r_W (v u:Value) (s t:Bool) (x y:Int) (hv:IsN v s x) (hu:IsN u t y) (aa:x+y < 115792089237316195423570985008687907853269984665640564039457584007913129639936) (w:World):
  Calls Tryz.prog 100 #[v,u] w fun e Z=>e = .returned (nv (pls s x t y).1 (pls s x t y).2)/\Below w.heap.size w Z:=by
 have hx:=hv.rng;have hy:=hu.rng;obtain ⟨a0,a1,a2,a3,rfl,p0,p1,p2,p3,R⟩:=hv;obtain ⟨b0,b1,b2,b3,rfl,q0,q1,q2,q3,V⟩:=hu;by_cases E:s=t
 ·subst E;refine (i_E s a0 a1 a2 a3 b0 b1 b2 b3 p0 p1 p2 p3 q0 q1 q2 q3 w).mono ?_;rintro e Z ⟨J,O,M,L,cr,rfl,u0,u1,u2,u3,A,hb⟩;refine ⟨?_,hb⟩;have:pls s x s y=(s,x+y):=by simp [pls]
  rw [this];refine congrArg Ending.returned (IsN.nv ⟨J,O,M,L,rfl,u0,u1,u2,u3,?_⟩);have h:=A.out;rw [R,V,BP4] at h;have hc:0<=PS 4 J O M L:=by rw [PS4];unfold U at *;omega
  omega
 ·have I:(s==t)=false:=by simpa using E
  by_cases H:x < y
  ·refine (n_U s t I a0 a1 a2 a3 b0 b1 b2 b3 p0 p1 p2 p3 q0 q1 q2 q3 (by show decide _=true;rw [R,V];simpa using H) w).mono ?_;rintro e Z ⟨J,O,M,L,cr,rfl,u0,u1,u2,u3,A,hb⟩;refine ⟨?_,hb⟩;have:pls s x t y=(t,y - x):=by simp [pls,E,H]
   rw [this];refine congrArg Ending.returned (IsN.nv ⟨J,O,M,L,rfl,u0,u1,u2,u3,?_⟩);have h:=A.out;rw [R,V,BP4] at h;have hc:PS 4 J O M L < 115792089237316195423570985008687907853269984665640564039457584007913129639936:=by rw [PS4];unfold U at *;omega
   omega
  ·refine (n_V s t I a0 a1 a2 a3 b0 b1 b2 b3 p0 p1 p2 p3 q0 q1 q2 q3 (by show decide _=false;rw [R,V];simpa using H) w).mono ?_;rintro e Z ⟨J,O,M,L,cr,rfl,u0,u1,u2,u3,A,hb⟩;refine ⟨?_,hb⟩;have:pls s x t y=(s,x - y):=by simp [pls,E,H]
   rw [this];refine congrArg Ending.returned (IsN.nv ⟨J,O,M,L,rfl,u0,u1,u2,u3,?_⟩);have h:=A.out;rw [R,V,BP4] at h;have hc:PS 4 J O M L < 115792089237316195423570985008687907853269984665640564039457584007913129639936:=by rw [PS4];unfold U at *;omega
   omega
theorem r_X (n:Int) (H:InR n) (w:World):
  Calls Tryz.prog 107 #[.int .i64 n] w fun e A=>e = .returned (nv (decide (n < 0)) (n.natAbs:Int))/\Below w.heap.size w A:=
 (d_e n H w).mono fun e A ⟨v,he,E,hb⟩=>⟨by rw [he,E.nv],hb⟩
theorem plusD {v u:Value} {S T:Int} (J:IsS v S) (M:IsS u T) (hb:(S.natAbs:Int)+(T.natAbs:Int) < 115792089237316195423570985008687907853269984665640564039457584007913129639936):
  ∃ z,IsS z (S+T)/\∀ W,Calls Tryz.prog 100 #[v,u] W fun e O=>e = .returned z/\Bw W O:=by
 obtain ⟨s,x,A,H⟩:=J;obtain ⟨t,y,E,I⟩:=M;have hx:=q_r A H;have Z:=q_r E I;have R:=t_f s x t y (by omega) (by omega);obtain ⟨V,a1,a2,a3,e,L⟩:=f_G (pls s x t y).1 (pls s x t y).2 R.1 (by omega);refine ⟨nv (pls s x t y).1 (pls s x t y).2,⟨_,_,by rw [e];exact L,by rw [t_e,H,I]⟩,fun W=>?_⟩;exact r_W v u s t x y A E (by omega) W
theorem timesD {a b:Int} (A:InR a) (hb:InR b):∃ z,IsS z (a*b)/\∀ W,Calls Tryz.prog 101 #[.int .i64 a,.int .i64 b] W fun e E=>e = .returned z/\Bw W E:=by
 have hp:=Wd.prod_rng A hb
 have I:(((a.natAbs*b.natAbs:Nat):Int)) < 115792089237316195423570985008687907853269984665640564039457584007913129639936:=by
  rw [<- Int.natAbs_mul];omega
 obtain ⟨M,R,V,O,e,J⟩:=f_G (Fx.differ a b) ((a.natAbs*b.natAbs:Nat):Int) (by omega) I;refine ⟨nv (Fx.differ a b) ((a.natAbs*b.natAbs:Nat):Int),⟨_,_,by rw [e];exact J,r_V a b⟩,fun W=>?_⟩;refine (i_G a b A hb W).mono ?_;rintro e E ⟨z,rfl,L,H⟩;exact ⟨by rw [L.nv],H⟩
theorem fromD {a:Int} (A:InR a):∃ z,IsS z a/\∀ W,Calls Tryz.prog 107 #[.int .i64 a] W fun e H=>e = .returned z/\Bw W H:=by
 obtain ⟨J,I,M,L,e,E⟩:=f_G (decide (a < 0)) (a.natAbs:Int) (by omega) (by unfold InR at A;omega);exact ⟨nv (decide (a < 0)) (a.natAbs:Int),⟨_,_,by rw [e];exact E,g_s a⟩,fun W=>r_X a A W⟩
theorem halvedD {v:Value} {S:Int} (I:IsS v S):∃ z,IsS z (Wd.rqI S 4294967296)/\∀ W,Calls Tryz.prog 103 #[v,.int .i64 32] W fun e H=>e = .returned z/\Bw W H:=by
 obtain ⟨s,x,A,M⟩:=I;have Z:=A.rng
 have E:0<=rqI x 4294967296/\rqI x 4294967296 < 115792089237316195423570985008687907853269984665640564039457584007913129639936:=by
  unfold rqI
  split <;> omega
 obtain ⟨R,a1,a2,V,e,L⟩:=f_G s (rqI x 4294967296) E.1 E.2;refine ⟨nv s (rqI x 4294967296),⟨_,_,by rw [e];exact L,by rw [u_o _ _ _ (by omega),M]⟩,fun W=>?_⟩;refine (g_3 v s x A W).mono ?_;rintro e H ⟨z,rfl,O,J⟩;exact ⟨by rw [O.nv],J⟩
end Go.Proofs.YtkfpainpomobfaaGreatDoor.Rf
namespace Go.Proofs.YtkfpainpomobfaaGreatDoor.Wd
open Go.RowKit Fx List World Nat
/-- One of the reference's numbers in the five cells of a block, which may be written. -/
def LiesS (W:World) (b:Nat) (S:Int):Prop:=
 ∃ (r:Bool) (a0 a1 a2 a3:Int),b < W.heap.size/\W.cell? ⟨b,0,none⟩=some (.bool r)/\W.cell? ⟨b,1,none⟩=some (.int .u64 a0)/\W.cell? ⟨b,2,none⟩=some (.int .u64 a1)/\W.cell? ⟨b,3,none⟩=some (.int .u64 a2)/\W.cell? ⟨b,4,none⟩=some (.int .u64 a3)/\
  W.frozen? ⟨b,0,none⟩=false/\W.frozen? ⟨b,1,none⟩=false/\W.frozen? ⟨b,2,none⟩=false/\W.frozen? ⟨b,3,none⟩=false/\W.frozen? ⟨b,4,none⟩=false/\Rf.IsS (.agg #[.bool r,.int .u64 a0,.int .u64 a1,.int .u64 a2,.int .u64 a3]) S
theorem LiesS.up {W W':World} {b:Nat} {S:Int} (h:LiesS W b S) (hb:Bw W W'):LiesS W' b S:=by
 obtain ⟨r,L,V,a2,O,h0,E,A,I,H,J,f0,f1,R,M,f4,Z⟩:=h;exact ⟨r,L,V,a2,O,Nat.lt_of_lt_of_le h0 hb.size,keep hb E,keep hb A,keep hb I,keep hb H,keep hb J,b_j hb E f0,b_j hb A f1,b_j hb I R,b_j hb H M,b_j hb J f4,Z⟩
theorem LiesS.set {W:World} {b:Nat} {S L:Int} {J:Bool} {H A E I:Int} (h:LiesS W b S) (hN:Rf.IsS (.agg #[.bool J,.int .u64 H,.int .u64 A,.int .u64 E,.int .u64 I]) L):
  LiesS (((((W.setCell ⟨b,0,none⟩ (.bool J)).setCell ⟨b,1,none⟩ (.int .u64 H)).setCell ⟨b,2,none⟩ (.int .u64 A)).setCell ⟨b,3,none⟩ (.int .u64 E)).setCell ⟨b,4,none⟩ (.int .u64 I)) b L:=by
 obtain ⟨r,a0,a1,a2,a3,h0,R,c1,Z,V,c4,f0,f1,O,M,f4,_⟩:=h;obtain ⟨g0,g1,g2,g3,g4⟩:=Rf.five W b (.bool J) (.int .u64 H) (.int .u64 A) (.int .u64 E) (.int .u64 I) R c1 Z V c4;exact ⟨J,H,A,E,I,by rw [m_w];exact h0,g0,g1,g2,g3,g4,(c_A _ _ _ _ _ _ _ _).trans f0,(c_A _ _ _ _ _ _ _ _).trans f1,(c_A _ _ _ _ _ _ _ _).trans O,(c_A _ _ _ _ _ _ _ _).trans M,(c_A _ _ _ _ _ _ _ _).trans f4,hN⟩
theorem i_K (W:World) (t:TypeId):LiesS (W.alloc (.cells #[.bool false,.int .u64 0,.int .u64 0,.int .u64 0,.int .u64 0] t)) W.heap.size 0:=by
 refine ⟨false,0,0,0,0,by simp,by simp [go_sem],by simp [go_sem],by simp [go_sem],by simp [go_sem],by simp [go_sem],by simp [go_sem],by simp [go_sem],by simp [go_sem],by simp [go_sem],by simp [go_sem],Rf.zeroS⟩
theorem n_4 {x:List Int} (A:RI x) (i:Nat->Nat) (n:Nat) (H:n<=4096) (a:Int) (E:InR a):((b_C (fun q=>x.getD (i q) 0) n).natAbs:Int)+(a.natAbs:Int) < 115792089237316195423570985008687907853269984665640564039457584007913129639936:=by
 have I:=e_O (f:=fun q=>x.getD (i q) 0) (B:=9223372036854775808) (by omega) n fun q _=>by have:=b_y A (i q);unfold InR at this;omega
 generalize b_C (fun q=>x.getD (i q) 0) n=S at *;unfold InR at E;omega
end Go.Proofs.YtkfpainpomobfaaGreatDoor.Wd
namespace Go.Proofs.YtkfpainpomobfaaGreatDoor.Wd
open Go.RowKit List World Nat
end Go.Proofs.YtkfpainpomobfaaGreatDoor.Wd
namespace Go.Proofs.YtkfpainpomobfaaGreatDoor.Wd
open Go.RowKit Fx List World Nat
end Go.Proofs.YtkfpainpomobfaaGreatDoor.Wd
namespace Go.Proofs.YtkfpainpomobfaaGreatDoor.Rf
open Go.RowKit Fx List World Nat
theorem n_5 (n y:Int) (O:InR n) (L:hold (n*4294967296)=y) (w:World):
  Calls Tryz.prog 137 #[.int .i64 n] w fun e Z=>e = .returned (.int .i64 y)/\Below w.heap.size w Z:=by
 have E:Hid _:=L;clear L;have H:(n.natAbs:Int)*4294967296 < 115792089237316195423570985008687907853269984665640564039457584007913129639936:=by unfold InR at O;omega
 have HS:Hid _:=H;clear H;go_enter Tryz.func137,Tryz.ntmps137;go_wp2_with fail
 refine (d_e n O _).mono ?_;rintro e w1 ⟨v,rfl,R,A⟩;go_wp2_with fail
 refine (g_r v _ _ R HS.out _).mono ?_;rintro e w2 ⟨u,rfl,V,J⟩;go_wp2_with fail
 refine (d_4 u _ _ V _).mono ?_;rintro e w3 ⟨rfl,I⟩;go_wp2;go_ret;have M:=A.trans (J.mono A.size);refine ⟨ret_int ?_,M.trans (I.mono M.size)⟩;rw [<- E.out]
 congr 1
 unfold sv;by_cases h:n < 0
 ·rw [if_pos (by simpa using h)];omega
 ·rw [if_neg (by simpa using h)];omega
theorem rup {w A E:World} (h:Below w.heap.size w A) (H:Below A.heap.size A E):Below w.heap.size w E:=h.trans (H.mono h.size)
theorem rb1 (x:Int) (E:InR x) (w:World):
  Calls Tryz.prog 110 #[.int .i64 1,.int .i64 x] w fun e A=>e = .returned (.int .i64 (bendI 1 x))/\Below w.heap.size w A:=by
 rw [p_8];by_cases h:x < 0
 ·rw [if_pos h];go_enter Tryz.func110,Tryz.ntmps110;go_wp2;go_ret;exact ⟨rfl,Below.refl _ _⟩
 ·rw [if_neg h];have H:0<=x:=by omega
  go_enter Tryz.func110,Tryz.ntmps110;go_wp2;go_ret;exact ⟨rfl,Below.refl _ _⟩
theorem rb2 (x:Int) (J:InR x) (w:World):
  Calls Tryz.prog 110 #[.int .i64 2,.int .i64 x] w fun e A=>e = .returned (.int .i64 (bendI 2 x))/\Below w.heap.size w A:=by
 rw [p_9];by_cases h:0 < x
 ·rw [if_pos h];go_enter Tryz.func110,Tryz.ntmps110;go_wp2;go_ret;exact ⟨rfl,Below.refl _ _⟩
 ·rw [if_neg h];obtain ⟨y,H⟩:∃ y,by8 x=y:=⟨_,rfl⟩
  rw [H];have R:x<=0:=by omega
  have L:∀ W,Calls Tryz.prog 137 #[.int .i64 8] W fun e A=>e = .returned (.int .i64 34359738368)/\Below W.heap.size W A:=fun W=>n_5 8 _ (by unfold InR;omega) (by decide) W;have M:∀ W,Calls Tryz.prog 136 #[.int .i64 x,.int .i64 34359738368] W fun e A=>e = .returned (.int .i64 y)/\Below W.heap.size W A:=fun W=>n_2 x _ J (by unfold InR;omega) y ((u_A J).trans H) W;clear J h H;go_enter Tryz.func110,Tryz.ntmps110;go_wp2_with fail
  refine (L _).mono ?_;rintro e V ⟨rfl,I⟩;go_wp2_with fail
  refine (M _).mono ?_;rintro e O ⟨rfl,E⟩;go_wp2;go_ret;exact ⟨rfl,rup I E⟩
theorem rb3 (x:Int) (I:InR x) (w:World):
  Calls Tryz.prog 110 #[.int .i64 3,.int .i64 x] w fun e E=>e = .returned (.int .i64 (bendI 3 x))/\Below w.heap.size w E:=by
 rw [q_a];by_cases h:4294967296 < x
 ·rw [if_pos h];go_enter Tryz.func110,Tryz.ntmps110;go_wp2;go_ret;exact ⟨rfl,Below.refl _ _⟩
 ·rw [if_neg h];have J:x<=4294967296:=by omega
  by_cases A:x < -4294967296
  ·rw [if_pos A];go_enter Tryz.func110,Tryz.ntmps110;go_wp2;go_ret;exact ⟨rfl,Below.refl _ _⟩
  ·rw [if_neg A];have H:-4294967296<=x:=by omega
   go_enter Tryz.func110,Tryz.ntmps110;go_wp2;go_ret;exact ⟨rfl,Below.refl _ _⟩
theorem rb4 (x:Int) (E:InR x) (w:World):
  Calls Tryz.prog 110 #[.int .i64 4,.int .i64 x] w fun e I=>e = .returned (.int .i64 (bendI 4 x))/\Below w.heap.size w I:=by
 rw [q_b];by_cases h:x < 0
 ·rw [if_pos h];have H:=r_R x E _ rfl w;go_enter Tryz.func110,Tryz.ntmps110;go_wp2_with fail
  refine H.mono ?_;rintro e J ⟨rfl,A⟩;go_wp2;go_ret;exact ⟨rfl,A⟩
 ·rw [if_neg h];have L:0<=x:=by omega
  go_enter Tryz.func110,Tryz.ntmps110;go_wp2;go_ret;exact ⟨rfl,Below.refl _ _⟩
theorem rb5 (x:Int) (R:InR x) (w:World):
  Calls Tryz.prog 110 #[.int .i64 5,.int .i64 x] w fun e I=>e = .returned (.int .i64 (bendI 5 x))/\Below w.heap.size w I:=by
 rw [q_c];obtain ⟨a,V⟩:∃ a,by2 x=a:=⟨_,rfl⟩
 have ha:InR a:=by rw [<- V];exact j_l R
 obtain ⟨b,Z⟩:∃ b,hold (a+2147483648)=b:=⟨_,rfl⟩
 rw [V,Z];have J:∀ W,Calls Tryz.prog 137 #[.int .i64 2] W fun e I=>e = .returned (.int .i64 8589934592)/\Below W.heap.size W I:=fun W=>n_5 2 _ (by unfold InR;omega) (by decide) W;have L:∀ W,Calls Tryz.prog 136 #[.int .i64 x,.int .i64 8589934592] W fun e I=>e = .returned (.int .i64 a)/\Below W.heap.size W I:=fun W=>n_2 x _ R (by unfold InR;omega) a ((u_B R).trans V) W;have M:∀ W,Calls Tryz.prog 97 #[.int .i64 a,.int .i64 2147483648] W fun e I=>e = .returned (.int .i64 b)/\Below W.heap.size W I:=fun W=>add_ref a _ ha (by unfold InR;omega) b Z W;clear R ha V Z;by_cases h:b < 0
 ·rw [if_pos h];go_enter Tryz.func110,Tryz.ntmps110;go_wp2_with fail
  refine (J _).mono ?_;rintro e w1 ⟨rfl,E⟩;go_wp2_with fail
  refine (L _).mono ?_;rintro e w2 ⟨rfl,A⟩;go_wp2_with fail
  refine (M _).mono ?_;rintro e w3 ⟨rfl,H⟩;have O:Hid _:=rup (rup E A) H;clear E A H J L M;go_wp2;go_ret;exact ⟨rfl,O⟩
 ·rw [if_neg h];have h':0<=b:=by omega
  by_cases h2:4294967296 < b
  ·rw [if_pos h2];go_enter Tryz.func110,Tryz.ntmps110;go_wp2_with fail
   refine (J _).mono ?_;rintro e w1 ⟨rfl,E⟩;go_wp2_with fail
   refine (L _).mono ?_;rintro e w2 ⟨rfl,A⟩;go_wp2_with fail
   refine (M _).mono ?_;rintro e w3 ⟨rfl,H⟩;have O:Hid _:=rup (rup E A) H;clear E A H J L M;go_wp2;go_ret;exact ⟨rfl,O⟩
  ·rw [if_neg h2];have aa:b<=4294967296:=by omega
   go_enter Tryz.func110,Tryz.ntmps110;go_wp2_with fail
   refine (J _).mono ?_;rintro e w1 ⟨rfl,E⟩;go_wp2_with fail
   refine (L _).mono ?_;rintro e w2 ⟨rfl,A⟩;go_wp2_with fail
   refine (M _).mono ?_;rintro e w3 ⟨rfl,H⟩;have O:Hid _:=rup (rup E A) H;clear E A H J L M;go_wp2;go_ret;exact ⟨rfl,O⟩
theorem rbend_any (k x:Int) (I:1<=k/\k<=5) (A:InR x) (y:Int) (E:bendI k x=y) (w:World):
  Calls Tryz.prog 110 #[.int .i64 k,.int .i64 x] w fun e H=>e = .returned (.int .i64 y)/\Below w.heap.size w H:=by
 subst E;have:k=1∨k=2∨k=3∨k=4∨k=5:=by omega
 rcases this with rfl|rfl|rfl|rfl|rfl
 ·exact rb1 x A w
 ·exact rb2 x A w
 ·exact rb3 x A w
 ·exact rb4 x A w
 ·exact rb5 x A w
end Go.Proofs.YtkfpainpomobfaaGreatDoor.Rf
namespace Go.Proofs.YtkfpainpomobfaaGreatDoor.Wd
open Go.RowKit Fx List World Nat
theorem n_6 (k:Int) (p p2:Option Addr) (n c n2 c2:Nat) (d x:List Int) (hd:RI d) (hx:RI x) (w:World) (h1:Nums .i64 w (.slice p n c) d) (h2:Nums .i64 w (.slice p2 n2 c2) x):
  Calls Tryz.prog 76 #[.int .i64 k,.agg #[.slice p n c,.slice p2 n2 c2]] w fun e w'=>∃ v',e = .returned (.tuple #[v',.int .i64 (f_u k d x)])/\TRes w' w.heap.size v' (f_v k d x) (g_h k d x)/\Bw w w':=by
 have cA:=fun W (hW:Bw w W)=>c_6 _ _ d x hd W (h1.up hW) (h2.up hW);unfold f_u f_v g_h;by_cases H:1<=k/\k<=5
 ·by_cases hp:isP d x
  ·rw [decide_eq_true hp] at cA;rw [if_pos ⟨H,hp⟩,if_pos ⟨H,hp⟩,if_pos ⟨H,hp⟩];have cN:=fun W (hW:Bw w W)=>e_P _ d hd hp.1 0 W (h1.up hW);obtain ⟨V,eV⟩:∃ V,(x.map fun y=>Fx.bendI k y)=V:=⟨_,rfl⟩
   rw [eV];obtain ⟨_,_,_,e4,HX⟩:=h2.lst;cases e4;have aq:x.length<=4096:=by rw [hp.2];exact hp.1.2.2
   rw [<- hp.2] at cN;rw [HX.1] at aq cN;obtain ⟨N,eN⟩:∃ N,N=n2:=⟨_,rfl⟩
   obtain rfl:=eN;have aE:(N:Int)<=4096:=by omega
   have HL:Hid (V.length=N):=by show _=_;rw [<- eV,length_map];exact HX.1
   have HV:Hid ((x.map fun y=>Fx.bendI k y)=V/\RI x/\x.length=N/\1<=k/\k<=5):=⟨eV,hx,HX.1,H⟩
   have ax:=H.1;have ap:=H.2;clear eV h1 h2 hd hx hp H;go_enter Tryz.func76,Tryz.ntmps76;go_wp2_with fail
   generalize L:alloc _ _=W0;obtain ⟨I,XA,XR⟩:=i_M L;clear L;refine (cA W0 I).mono ?_;rintro e w1 ⟨rfl,E⟩;have J:=b_5 (a_c I E) E;clear E cA;obtain ⟨a0,a1,_,_⟩:=XA.out.up J.2;have M:Hid (Bw w w1/\Bw W0 w1):=J.out;go_wp2_with fail
   refine (cN w1 M.1).mono ?_;rintro e w4 ⟨v4,rfl,⟨s4,g,cg,rfl,ag,an,ac,ak⟩,ao⟩;obtain ⟨p8,n8,c8,rfl,_⟩:=ag.nums.lst;have aw:Hid (Off g (.slice p8 n8 c8)):=ac;go_wp2_with fail
   generalize aj:alloc _ _=W5;obtain ⟨b5,am⟩:∃ b5,w4.heap.size=b5:=⟨_,rfl⟩
   have B5:Bw w4 W5:=by rw [<- aj];exact a_a w4 _
   have XT:Hid (Cel W5 b5 (.slice p8 n8 c8) (.slice (some ⟨g,0,none⟩) N cg)):=by
    show Cel _ _ _ _;unfold Cel;rw [<- aj,<- am];simp [go_sem]
   have al:Hid (Bw w W5/\Bw W0 W5):=⟨a_c M.1 (a_c ao B5),a_c M.2 (a_c ao B5)⟩
   have aC:Hid (OwnK .i64 3 W5 w1.heap.size (.slice p8 n8 c8) d):=ag.up B5
   have aB:Hid (OwnK .i64 48 W5 g (.slice (some ⟨g,0,none⟩) N cg) (b_l V 0)):=by
    show OwnK _ _ _ _ _ _;rw [a_W,HL.out];exact (an.up B5).base
   have hz:=a_b XR.1;have aA:=an.size;have Hg:Hid (W0.heap.size<=g/\w.heap.size+1 < W0.heap.size/\g < b5/\w1.heap.size<=g/\W0.heap.size<=w1.heap.size):=⟨Nat.le_trans M.2.size ak,hz,by omega,ak,M.2.size⟩
   rw [am];clear a0 a1 aj B5 am hz aA ag an ao ak ac cN
   go_loopg [7] N (fun gg i wr=>∃ (q:Nat),q<=N/\gg=N - q/\i = .int .i64 (q:Int)/\Hid (OwnK .i64 48 wr g (.slice (some ⟨g,0,none⟩) N cg) (b_l V q))/\Hid (Bw w wr/\Stay g W5 wr))
   case atStart=>exact ⟨0,by omega,by omega,by first|rfl|simp,aB,al.1,Stay.refl _ _⟩
   case round=>
    obtain ⟨j,hj,aJ,rfl,ai,A⟩:=hrel;obtain ⟨R1,aD⟩:∃ R1:World,R1=wr:=⟨_,rfl⟩
    subst aD;by_cases aa:j < N
    ·have aH:(j:Int) < (N:Int):=by omega
     have R:b5≠g:=by have:=Hg.out;omega
     have af:w.heap.size≠g:=by have:=Hg.out;omega
     obtain ⟨t0,t1,_,_⟩:=XT.out.stay A.2 R;obtain ⟨a0,a1,_,_⟩:=(XA.out.up al.2).stay A.2 af;obtain ⟨q,o,rfl,ay⟩:=HX.2 j aa;have ar:=a_d ay A.1;have rx:=HV.2.1.at j (by rw [HV.2.2.1];exact aa);obtain ⟨X,eX⟩:∃ X,x.getD j 0=X:=⟨_,rfl⟩
     rw [eX] at ar rx;obtain ⟨Z,eZ⟩:∃ Z,Fx.bendI k X=Z:=⟨_,rfl⟩
     have HZ:Hid (V.getD j 0=Z):=by
      show _=_;rw [<- HV.1,q_e _ _ _ (by rw [HV.2.2.1];exact aa),eX,eZ]
     have cz:∀ W,Calls Tryz.prog 110 #[.int .i64 k,.int .i64 X] W fun e w'=>e = .returned (.int .i64 Z)/\Bw W w':=fun W=>Rf.rbend_any k X HV.2.2.2 rx Z eZ W;clear eX eZ ay;have z0:=a_b a0;have z1:=a_b t0;have z2:=a_b ar;have z3:=ai.size;clear R af;go_wp2_with fail
     apply e_K 11 42 (by kernel_rfl) rfl rfl (by kernel_rfl)
     ·intro F hF hFc hFf;simp only [take_succ_cons,take_zero]
      repeat (go_big_quiet_step (first|(go_at_call 110;with_reducible exact hF.call (cz _))))
      refine wpQuiet_nil ?_;exact rfl
     ·intro W1 ab;simp only [drop_succ_cons,drop_zero];have ah:=ai.out.up ab;obtain ⟨aF,aI⟩:=ah.cell (by rw [a_y];exact HL.out) j aa
      have H5:Hid (OwnK .i64 48 (W1.setCell ⟨g,j,none⟩ (.int .i64 Z)) g (.slice (some ⟨g,0,none⟩) N cg) (b_l V (j+1))):=by
       have:=ah.store (by rw [a_y];exact HL.out) j Z;have e2:=a_9 V j (by rw [HL.out];exact aa);rw [HZ.out] at e2;rw [e2] at this;exact this
      have av:w.heap.size<=g:=by have:=Hg.out;omega
      have H6:Hid (Bw w (W1.setCell ⟨g,j,none⟩ (.int .i64 Z))/\Stay g W5 (W1.setCell ⟨g,j,none⟩ (.int .i64 Z))):=⟨(a_c A.1 ab).setCell (p:=⟨g,j,none⟩) av _,(A.2.up ab).set _ _⟩
      clear ah ab z0 z1 z2 z3 a0 a1 t0 t1 av cz;go_wp2;go_roundg (N - (j+1))
      case measure=>omega
      case rel=>exact ⟨j+1,by omega,rfl,by first|rfl|simp,H5,H6⟩
    ·obtain rfl:j=N:=by omega
     have O:=ai.out;rw [<- HL.out,a_0,HL.out] at O;have az:Hid (Cel W5 (w.heap.size+1) (.slice none 0 0) (.slice none 0 0)):=XR.out.up al.2;have R:b5≠g:=by have:=Hg.out;omega
     obtain ⟨t0,t1,_,_⟩:=XT.out.stay A.2 R;have ae:w.heap.size+1≠g:=by have:=Hg.out;omega
     have au:=aC.out.stay A.2 (fun ad n1 c1 e1=>aw.out ad n1 c1 e1)
     have HF:Hid (TRes (set2 R1 (w.heap.size+1) (.slice p8 n8 c8) (.slice (some ⟨g,0,none⟩) j cg)) w.heap.size (.agg #[.slice p8 n8 c8,.slice (some ⟨g,0,none⟩) j cg]) d V/\Bw w (set2 R1 (w.heap.size+1) (.slice p8 n8 c8) (.slice (some ⟨g,0,none⟩) j cg))):=
      ⟨(TRes.set (au.low Hg.2.2.2.2) (O.low Hg.1) Hg.2.1).low I.size,a_q A.1 _ (by omega) _ _⟩
     have xr:=az.out.stay A.2 ae;have cf:=xr.set (.slice p8 n8 c8) (.slice (some ⟨g,0,none⟩) j cg);obtain ⟨r0,r1,r2,r3⟩:=xr;obtain ⟨y0,y1,_,_⟩:=cf;clear O au ae R;go_wp2;exact bodyPost_ret (v:=.tuple #[.agg #[.slice p8 n8 c8,.slice (some ⟨g,0,none⟩) j cg],.int .i64 0]) (by simp [results,Tryz.results76,go_sem,y0,y1]) rfl ⟨_,rfl,HF.out⟩
  ·rw [decide_eq_false hp] at cA;rw [if_neg fun h=>hp h.2,if_neg fun h=>hp h.2,if_neg fun h=>hp h.2];have ax:=H.1;have ap:=H.2;clear h1 h2 hd hx hp H;go_enter Tryz.func76,Tryz.ntmps76;go_wp2_with fail
   generalize L:alloc _ _=W0;obtain ⟨I,XA,XR⟩:=i_M L;clear L;refine (cA W0 I).mono ?_;rintro e w1 ⟨rfl,E⟩;have J:=b_5 (a_c I E) E;clear E cA;have xr:=(XR.out.up (J).2)
   have BF:=a_q ((J).1) (w.heap.size+1) (by omega) (.slice none 0 0) (.slice none 0 0);have cf:=xr.set (.slice none 0 0) (.slice none 0 0);obtain ⟨r0,r1,r2,r3⟩:=xr;obtain ⟨y0,y1,_,_⟩:=cf;go_wp2;exact brn 1 (by simp [results,Tryz.results76,go_sem,y0,y1]) ⟨_,rfl,TRes.none _ _,BF⟩
 ·rw [if_neg fun h=>H h.1,if_neg fun h=>H h.1,if_neg fun h=>H h.1];clear h1 h2 hd hx cA;by_cases ax:k < 1
  ·go_enter Tryz.func76,Tryz.ntmps76;go_wp2;exact brn 1 (by simp [results,Tryz.results76,go_sem]) ⟨_,rfl,TRes.none _ _,by go_grown⟩
  ·have ap:5 < k:=by omega
   have aG:1<=k:=by omega
   go_enter Tryz.func76,Tryz.ntmps76;go_wp2;exact brn 1 (by simp [results,Tryz.results76,go_sem]) ⟨_,rfl,TRes.none _ _,by go_grown⟩
theorem t_g {op:Int} {f:FuncId} {args:Array Value} {p I p3 Z:Option Addr} {n c H A n3 R n4 c4:Nat} {K E:Int} {D V:List Int} {w:World} (h:(op=2/\f=67/\args=#[.int .i64 0,.agg #[.slice p n c,.slice I H A],.agg #[.slice p3 n3 R,.slice Z n4 c4]])∨(op=3/\f=67/\args=#[.int .i64 1,.agg #[.slice p n c,.slice I H A],.agg #[.slice p3 n3 R,.slice Z n4 c4]])∨(op=4/\f=67/\args=#[.int .i64 2,.agg #[.slice p n c,.slice I H A],.agg #[.slice p3 n3 R,.slice Z n4 c4]])∨(op=5/\f=68/\args=#[.agg #[.slice p n c,.slice I H A],.int .i64 K])∨(op=7/\f=70/\args=#[.agg #[.slice p n c,.slice I H A]])) (cc:∀ W,Bw w W->Calls Tryz.prog f args W fun e O=>∃ M,e = .returned (.tuple #[M,.int .i64 E])/\TRes O W.heap.size M D V/\Bw W O):
  Calls Tryz.prog 45 #[.int .i64 op,.agg #[.slice p n c,.slice I H A],.agg #[.slice p3 n3 R,.slice Z n4 c4],.int .i64 K] w fun e O=>∃ M,e = .returned (.tuple #[M,.int .i64 E])/\TRes O w.heap.size M D V/\Bw w O:=by
 rcases h with ⟨rfl,rfl,rfl⟩|⟨rfl,rfl,rfl⟩|⟨rfl,rfl,rfl⟩|⟨rfl,rfl,rfl⟩|⟨rfl,rfl,rfl⟩
 all_goals
  go_enter Tryz.func45,Tryz.ntmps45;go_wp2_with fail
  generalize L:alloc _ _=W0;obtain ⟨J,XA,XB,XR⟩:=s_F L;clear L;refine (cc W0 J).mono ?_;rintro e w1 ⟨v1,rfl,⟨s1,t1,rfl,hs,ht⟩,aa⟩;obtain ⟨pa,na,ca,rfl,_⟩:=hs.nums.lst;obtain ⟨pb,nb,cb,rfl,_⟩:=ht.nums.lst;clear cc;obtain ⟨HF,r0,r1,r2,r3,z0,z1⟩:=r_2 XR J aa hs ht (by omega);clear hs ht;go_wp2;exact bodyPost_ret (v:=.tuple #[.agg #[.slice pa na ca,.slice pb nb cb],.int .i64 E]) (by simp [results,Tryz.results45,go_sem,z0,z1]) rfl ⟨_,rfl,HF.out⟩
theorem r_Y {p p2 p3 p4:Option Addr} {n c J R n3 c3 n4 c4:Nat} {K E:Int} {D V:List Int} {w:World} (cc:Hid (∀ q W,Bw w W->Nums .i64 W (.slice q 1 1) [(J:Int)]->Calls Tryz.prog 79 #[.agg #[.slice p n c,.slice p2 J R],.slice q 1 1] W fun e M=>∃ L,e = .returned (.tuple #[L,.int .i64 E])/\TRes M W.heap.size L D V/\Bw W M)):
  Calls Tryz.prog 45 #[.int .i64 14,.agg #[.slice p n c,.slice p2 J R],.agg #[.slice p3 n3 c3,.slice p4 n4 c4],.int .i64 K] w fun e M=>∃ L,e = .returned (.tuple #[L,.int .i64 E])/\TRes M w.heap.size L D V/\Bw w M:=by
 go_enter Tryz.func45,Tryz.ntmps45;go_wp2_with fail
 generalize A:alloc _ _=W0;have B0:Bw w W0:=by rw [<- A];go_grown
 have XA:Hid (Cel W0 w.heap.size (.slice p n c) (.slice p2 J R)):=e_W A (by simp [go_sem]);have XB:Hid (Cel W0 (w.heap.size+1) (.slice p3 n3 c3) (.slice p4 n4 c4)):=e_W A (by simp [go_sem]);have XR:Hid (Cel W0 (w.heap.size+2) (.slice none 0 0) (.slice none 0 0)):=e_W A (by simp [go_sem]);have I:Hid _:=B0
 have l5:Nums .i64 W0 (.slice (some ⟨w.heap.size+3,0,none⟩) 1 1) [(J:Int)]:=by
  refine .inr ⟨_,1,rfl,fun j u H=>?_⟩
  match j,H with
  | 0,H=>
   simp [a_N] at H;subst H;rw [a_r,<- A];simp [go_sem]
  | j+1,H=>simp [a_N] at H
 clear A B0;refine (cc.out _ W0 I l5).mono ?_;rintro e w1 ⟨v1,rfl,⟨s1,t1,rfl,O,Z⟩,aa⟩;obtain ⟨pa,na,ca,rfl,_⟩:=O.nums.lst;obtain ⟨pb,nb,cb,rfl,_⟩:=Z.nums.lst;clear cc l5;obtain ⟨HF,r0,r1,r2,r3,z0,z1⟩:=r_2 XR I aa O Z (by omega);clear O Z;go_wp2;exact bodyPost_ret (v:=.tuple #[.agg #[.slice pa na ca,.slice pb nb cb],.int .i64 E]) (by simp [results,Tryz.results45,go_sem,z0,z1]) rfl ⟨_,rfl,HF.out⟩
theorem n_7 {op z:Int} {f:FuncId} {args:Array Value} {p R p3 p4:Option Addr} {n c M L n3 c3 n4 c4:Nat} {K E:Int} {D V:List Int} {w:World} (h:(op=8/\f=71/\args=#[.agg #[.slice p n c,.slice R M L],.int .i64 z])∨(op=11/\f=76/\args=#[.int .i64 z,.agg #[.slice p n c,.slice R M L]])∨(op=12/\f=77/\args=#[.agg #[.slice p n c,.slice R M L],.agg #[.slice p3 n3 c3,.slice p4 n4 c4],.int .i64 z])) (ez:whI K=z) (cc:∀ W,Bw w W->Calls Tryz.prog f args W fun e A=>∃ J,e = .returned (.tuple #[J,.int .i64 E])/\TRes A W.heap.size J D V/\Bw W A):
  Calls Tryz.prog 45 #[.int .i64 op,.agg #[.slice p n c,.slice R M L],.agg #[.slice p3 n3 c3,.slice p4 n4 c4],.int .i64 K] w fun e A=>∃ J,e = .returned (.tuple #[J,.int .i64 E])/\TRes A w.heap.size J D V/\Bw w A:=by
 have cw:∀ W,Calls Tryz.prog 72 #[.int .i64 K] W fun e A=>e = .returned (.int .i64 z)/\A=W:=fun W=>g_2 K z ez W;haveI:Nonempty World:=⟨w⟩
 have HC:Hid _:=cc;clear cc ez;rcases h with ⟨rfl,rfl,rfl⟩|⟨rfl,rfl,rfl⟩|⟨rfl,rfl,rfl⟩
 all_goals
  go_enter Tryz.func45,Tryz.ntmps45;go_wp2_with fail
  generalize H:alloc _ _=W0;obtain ⟨I,XA,XB,XR⟩:=s_F H;clear H;obtain ⟨a0,a1,_,_⟩:=XA.out;obtain ⟨b0,b1,_,_⟩:=XB.out;have k0:=a_b a0;have k1:=a_b b0
 refine rel [⟨3,50,TupP W0.heap.size D V E⟩,⟨4,51,OwnT W0.heap.size D V⟩] 6 100 (by kernel_rfl) rfl rfl (by kernel_rfl) (by rfl) ?_ ?_;rotate_left 2;refine rel [⟨3,68,TupP W0.heap.size D V E⟩,⟨4,69,OwnT W0.heap.size D V⟩] 6 100 (by kernel_rfl) rfl rfl (by kernel_rfl) (by rfl) ?_ ?_;rotate_left 2;refine rel [⟨4,77,TupP W0.heap.size D V E⟩,⟨5,78,OwnT W0.heap.size D V⟩] 7 100 (by kernel_rfl) rfl rfl (by kernel_rfl) (by rfl) ?_ ?_
 all_goals first
  |intro e he v W W' h hb
   simp only [mem_cons,not_mem_nil,or_false] at he;rcases he with rfl|rfl
   ·exact TupP.up h hb
   ·exact OwnT.up h hb
  |apply Exists.intro
   refine ⟨fun x=>?_,?_,?_⟩
   ·simp only [take_succ_cons,take_zero]
    repeat
     apply c_w;rfl;rfl
     ·intro F hF hf K hK hFc hFf
      go_big_quiet_op
      first|exact hK|(apply Exists.intro;refine ⟨fun _=>?_,?_⟩;(· exact hF.same (cw _));exact hK)
     (try simp only [a_v])
    refine c_g rfl rfl ?_ ?_
    ·intro F hF hf d hFc hFf;simp [a_j,a_e,go_sem];refine (HC.out (F d) (a_c I (hF.below d))).mono ?_;rintro e' w8 ⟨v8,rfl,h8,ab⟩;exact ⟨_,rfl,⟨v8,rfl,(h8.low (hF.below d).size).own⟩,ab⟩
    (try simp only [a_v])
    refine c_g rfl rfl ?_ ?_
    ·intro F hF hf d hFc hFf;have Z:=hf _ mS (by rfl) d;obtain ⟨u9,O,n9⟩:=Z;simp only [] at O n9;simp [a_j,a_e,go_sem,O];exact ⟨n9,Below.refl _ _⟩
    (try simp only [a_v])
    apply c_w;rfl;rfl
    ·intro F hF hf K hK hFc hFf;have Z:=hf _ mS (by rfl);obtain ⟨u9,O,_⟩:=Z w;simp only [] at O
     go_big_quiet_op
     exact hK
    (try simp only [a_v])
    refine b_A ?_;exact rfl
   ·exact fun x=>rfl
   ·intro w1 xs aa hf;simp only [drop_succ_cons,drop_zero];obtain ⟨pa,na,ca,pb,nb,cb,ex,hs,ht⟩:=hf _ (mC mS);simp only [] at ex;simp only [ex];clear ex hf HC a0 a1 b0 b1 k0 k1 cw;obtain ⟨HF,r0,r1,r2,r3,z0,z1⟩:=r_2 XR I aa hs ht (by omega);clear hs ht;go_wp2;exact bodyPost_ret (v:=.tuple #[.agg #[.slice pa na ca,.slice pb nb cb],.int .i64 E]) (by simp [results,Tryz.results45,go_sem,z0,z1]) rfl ⟨_,rfl,HF.out⟩
theorem u_0:RkP 11:=by
 intro p p2 p3 p4 n c Z R n3 c3 n4 c4 dd A d' y' K hK I ab aa V w M O h3 h4;refine n_7 (.inr (.inl ⟨rfl,rfl,rfl⟩)) rfl fun W J=>?_;have E:=r_l (k:=K) (D:=dd) (X:=A);show Calls _ _ _ _ fun e L=>∃ H,e = .returned (.tuple #[H,.int .i64 (f_u K dd A)])/\TRes L W.heap.size H (f_v K dd A) (g_h K dd A)/\Bw W L;rw [<- E.1,<- E.2.1,<- E.2.2];exact n_6 (whI K) p p2 n c Z R dd A I.2.1 I.2.2 W (M.up J) (O.up J)
end Go.Proofs.YtkfpainpomobfaaGreatDoor.Wd
