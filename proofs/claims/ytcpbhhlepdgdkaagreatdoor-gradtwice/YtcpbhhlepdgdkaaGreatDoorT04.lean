/- A number of 128 bits that lies in the tw -/
import Derived.Test.YtcpbhhlepdgdkaaGreatDoorT03
import Derived.Lib.BitFns
import Derived.Lib.ItoaNum
set_option linter.unusedVariables false
set_option linter.unusedSimpArgs false
set_option maxHeartbeats 16000000
set_option maxRecDepth 16000
namespace Go.Proofs.YtcpbhhlepdgdkaaGreatDoor.Wd
open Go.RowKit Fx
/-- A number that lies in the two cells of a block, which may be written. -/
def Lies (W:World) (b:Nat) (x:Int):Prop:=
 b < W.heap.size/\W.cell? ⟨b,0,none⟩=some (.int .i64 (x / 18446744073709551616))/\W.cell? ⟨b,1,none⟩=some (.int .u64 (x % 18446744073709551616))/\W.frozen? ⟨b,0,none⟩=false/\W.frozen? ⟨b,1,none⟩=false
theorem Lies.up {W W':World} {b:Nat} {x:Int} (h:Lies W b x) (hb:Below W.heap.size W W'):Lies W' b x:=
 ⟨Nat.lt_of_lt_of_le h.1 hb.size,keep hb h.2.1,keep hb h.2.2.1,a_U hb h.2.1 h.2.2.2.1,a_U hb h.2.2.1 h.2.2.2.2⟩
theorem a_I (W:World) (p q:Addr) (x:Value):(W.setCell p x).frozen? q=W.frozen? q:=by simp
theorem Lies.off {W:World} {b c:Nat} {x:Int} {y0 y1:Value} (h:Lies W b x) (D:b≠c):Lies ((W.setCell ⟨c,0,none⟩ y0).setCell ⟨c,1,none⟩ y1) b x:=by
 refine ⟨by simpa using h.1,?_,?_,?_,?_⟩
 ·rw [World.cell?_setCell_other _ _ _ _ (by simp;try omega),World.cell?_setCell_other _ _ _ _ (by simp;try omega)];exact h.2.1
 ·rw [World.cell?_setCell_other _ _ _ _ (by simp;try omega),World.cell?_setCell_other _ _ _ _ (by simp;try omega)];exact h.2.2.1
 ·rw [a_I,a_I];exact h.2.2.2.1
 ·rw [a_I,a_I];exact h.2.2.2.2
theorem Lies.set {W:World} {b:Nat} {x y yh yl:Int} (h:Lies W b x) (D:yh=y / 18446744073709551616) (E:yl=y % 18446744073709551616):Lies ((W.setCell ⟨b,0,none⟩ (.int .i64 yh)).setCell ⟨b,1,none⟩ (.int .u64 yl)) b y:=by
 obtain ⟨H,I⟩:=two W b (.int .i64 yh) (.int .u64 yl) h.2.1 h.2.2.1;refine ⟨by simpa using h.1,?_,?_,?_,?_⟩
 ·rw [H,D]
 ·rw [I,E]
 ·rw [a_I,a_I];exact h.2.2.2.1
 ·rw [a_I,a_I];exact h.2.2.2.2
theorem j_O (x y:Int) (I:InW x) (H:InW y) (D:InW (x+y)) (W:World):
  Calls Tryz.prog 11 #[wd x,wd y] W fun e E=>e = .returned (wd (x+y))/\Below W.heap.size W E:=by
 have:=add_any x y I H W;rw [n_7 D] at this;exact this
theorem c_p {W:World} {b c i j:Nat} {x:Value} (h:c≠b):(W.setCell ⟨b,j,none⟩ x).cell? ⟨c,i,none⟩=W.cell? ⟨c,i,none⟩:=World.cell?_setCell_other _ _ _ _ (by simp;try omega)
theorem b_8 {B:Nat} {a w:World} (h:Below B a w) (b:Nat) (hb:B<=b) (H I E J D:Value):Below B a (((((w.setCell ⟨b,0,none⟩ H).setCell ⟨b,1,none⟩ I).setCell ⟨b,2,none⟩ E).setCell ⟨b,3,none⟩ J).setCell ⟨b,4,none⟩ D):=
 ((((h.setCell (p:=⟨b,0,none⟩) hb H).setCell (p:=⟨b,1,none⟩) hb I).setCell (p:=⟨b,2,none⟩) hb E).setCell (p:=⟨b,3,none⟩) hb J).setCell (p:=⟨b,4,none⟩) hb D
end Go.Proofs.YtcpbhhlepdgdkaaGreatDoor.Wd
namespace Go.Proofs.YtcpbhhlepdgdkaaGreatDoor.Wd
open Go.RowKit
open Fx
def b_k (f:Nat->Int):Nat->Int
 | 0=>0
 | n+1=>b_k f n+f n
theorem a_9 {f g:Nat->Int}:∀ n,(∀ k,k < n->f k=g k)->b_k f n=b_k g n
 | 0,_=>rfl
 | n+1,h=>by rw [b_k,b_k,a_9 n (fun k D=>h k (by omega)),h n (by omega)]
theorem g_W {f:Nat->Int} {B:Int} (E:0<=B):∀ n,(∀ k,k < n->-B<=f k/\f k<=B)->-(B*n)<=b_k f n/\b_k f n<=B*n
 | 0,_=>by simp [b_k]
 | n+1,h=>by
  have I:=g_W E n (fun k J=>h k (by omega));have H:=h n (by omega);have D:B*((n+1:Nat):Int)=B*n+B:=by push_cast;rw [Int.mul_add,Int.mul_one]
  rw [b_k,D];omega
theorem h_V (x:Int) (j:Nat):∀ n,b_k (fun q=>if q=j then x else 0) n=if j < n then x else 0
 | 0=>by simp [b_k]
 | n+1=>by
  rw [b_k,h_V x j n];by_cases D:n=j
  ·subst D;simp
  ·by_cases E:j < n
   ·simp [D,E];omega
   ·simp [D,E];omega
/-- A sum by 2^32, rounded once, held. -/
def rnd (x:Int):Int:=hold (rqI x 4294967296)
theorem o_b {a b:Int} (D:InR a) (hb:InR b):-85070591730234615865843651857942052864<=a*b/\a*b<=85070591730234615865843651857942052864:=by
 unfold InR at D hb
 have E:(a*b).natAbs<=9223372036854775808*9223372036854775808:=by
  rw [Int.natAbs_mul];exact Nat.mul_le_mul (by omega) (by omega)
 omega
theorem b_H {l:List Int} (h:∀ y,y∈l->InR y) (k:Nat):InR (l.getD k 0):=by
 by_cases D:k < l.length
 ·have:l.getD k 0=l[k]:=by simp [D]
  rw [this];exact h _ (List.getElem_mem D)
 ·rw [g_I _ _ _ (by omega)];unfold InR;omega
/-- The number at i of a product: k the side that meets, m the product's second side. -/
def t_K (k m:Nat) (a b:List Int) (i:Nat):Int:=rnd (b_k (fun q=>a.getD (i / m*k+q) 0*b.getD (q*m+i % m) 0) k)
def s_O (n k m:Nat) (a b:List Int):List Int:=(List.range (n*m)).map (t_K k m a b)
/-- Where the number i of a matrix of n by m turned round (m by n) stood. -/
def s_4 (n m i:Nat):Nat:=i % n*m+i / n
def o_c (n m:Nat) (a:List Int):List Int:=(List.range (n*m)).map fun i=>a.getD (s_4 n m i) 0
theorem c_O (p m r:Nat) (h:r < m):(p*m+r) / m=p:=by
 rw [Nat.mul_comm,Nat.mul_add_div (by omega),Nat.div_eq_of_lt h,Nat.add_zero]
theorem d_z (p m r:Nat) (h:r < m):(p*m+r) % m=r:=by
 rw [Nat.mul_comm,Nat.mul_add_mod,Nat.mod_eq_of_lt h]
theorem a_0 {p n m r:Nat} (D:p < n) (E:r < m):p*m+r < n*m:=by
 have:(p+1)*m<=n*m:=Nat.mul_le_mul_right m D;rw [Nat.add_mul] at this;omega
theorem e_c {i n m:Nat} (h:i < n*m):i / n < m:=Nat.div_lt_of_lt_mul h
theorem e_d {i n m:Nat} (h:i < n*m):0 < n:=by
 rcases Nat.eq_zero_or_pos n with D|D
 ·subst D;omega
 ·exact D
/-- A place with a number more at one side. -/
theorem j_P (c k:Nat) (D:List Nat) (H:∀ x,x∈D->1<=x):∀ (E:List Nat) (i:Nat),(∀ x,x∈E->1<=x)->i < a_e (E++D)->
  c_y (E++c :: D) ((a_S (E++D) i).take E.length++k :: (a_S (E++D) i).drop E.length)=(i / a_e D*c+k)*a_e D+i % a_e D
 | [],i,_,I=>by
  have I:i < a_e D:=I;simp only [List.nil_append,List.length_nil,List.take_zero,List.drop_zero,c_y];rw [d_q D i H I,Nat.div_eq_of_lt I,Nat.mod_eq_of_lt I];simp
 | x :: E,i,hp,I=>by
  have O:1<=a_e (E++D):=a_A fun y L=>by
   rcases List.mem_append.1 L with h|h
   ·exact hp y (List.mem_cons_of_mem _ h)
   ·exact H y h
  have ih:=j_P c k D H E (i % a_e (E++D)) (fun y L=>hp y (List.mem_cons_of_mem _ L)) (Nat.mod_lt _ O);simp only [List.cons_append,a_S,List.length_cons,List.take_succ_cons,List.drop_succ_cons,c_y];rw [ih];have hP:=a_A H;have R:a_e (E++c :: D)=a_e E*(c*a_e D):=by rw [a_D,a_e]
  have e2:=a_D E D;rw [R,e2];have J:=Nat.div_add_mod i (a_e E*a_e D);generalize a_e E=A at *;generalize a_e D=P at *;generalize i / (A*P)=y at *;generalize i % (A*P)=j at *
  have M:i=P*(A*y)+j:=by
   rw [<- J,Nat.mul_comm A P,Nat.mul_assoc]
  have U:i / P=A*y+j / P:=by rw [M,Nat.mul_add_div (by omega)]
  have V:i % P=j % P:=by rw [M,Nat.mul_add_mod]
  rw [U,V]
  have h6:((A*y+j / P)*c+k)*P=y*(A*(c*P))+(j / P*c+k)*P:=by
   rw [Nat.add_mul (A*y),Nat.add_assoc,Nat.add_mul (A*y*c)]
   congr 1
   rw [Nat.mul_assoc (A*y),Nat.mul_comm A y,Nat.mul_assoc y]
  rw [h6,Nat.add_assoc]
/-- The number at i of the sum along a side of c, P the product of the sides behind it. -/
def s_P (c P:Nat) (v:List Int) (i:Nat):Int:=hold (b_k (fun k=>v.getD ((i / P*c+k)*P+i % P) 0) c)
def b_v (v:List Int):Int:=b_k (fun k=>v.getD k 0) v.length
def i_C (v:List Int):Int:=hold (rqI (b_v v) v.length)
theorem l_U {v:List Int} (D:∀ y,y∈v->InR y):-(9223372036854775808*(v.length:Int))<=b_v v/\b_v v<=9223372036854775808*v.length:=
 g_W (by omega) _ fun k _=>by have:=b_H D k;unfold InR at this;omega
/-- A shape without one of its sides. -/
def b_m (d:List Nat) (s:Nat):List Nat:=d.take s++d.drop (s+1)
theorem g_l (d:List Nat) (s:Nat) (h:s < d.length):d=d.take s++d.getD s 0 :: d.drop (s+1):=by
 have e:d.getD s 0=d[s]:=by simp [h]
 rw [e,<- List.drop_eq_getElem_cons h,List.take_append_drop]
theorem d_A (d:List Nat) (s:Nat) (h:s < d.length):a_e (b_m d s)*d.getD s 0=a_e d:=by
 have e:=congrArg a_e (g_l d s h);rw [a_D,a_e] at e;rw [b_m,a_D,e,Nat.mul_assoc,Nat.mul_comm (a_e (d.drop (s+1)))]
theorem j_Q {d:List Nat} (D:goodN d) (s:Nat) (h:s < d.length):1<=d.getD s 0:=by
 have e:d.getD s 0=d[s]:=by simp [h]
 rw [e];exact D.2.1 _ (List.getElem_mem h)
theorem d_e {d:List Nat} (D:goodN d) (s:Nat) (h:s < d.length):goodN (b_m d s):=by
 refine ⟨?_,fun x E=>?_,?_⟩
 ·have:=D.1;simp only [b_m,List.length_append,List.length_take,List.length_drop];omega
 ·rcases List.mem_append.1 E with h|h
  ·exact D.2.1 x (List.mem_of_mem_take h)
  ·exact D.2.1 x (List.mem_of_mem_drop h)
 ·have I:=d_A d s h;have H:a_e (b_m d s)*1<=a_e (b_m d s)*d.getD s 0:=Nat.mul_le_mul_left _ (j_Q D s h);have:=D.2.2;omega
/-- A place of the shape without the side s, with k there. -/
def t_L (p:List Nat) (s k:Nat):List Nat:=p.take s++k :: p.drop s
theorem q_k {d:List Nat} (E:goodN d) (s:Nat) (h:s < d.length) (i k:Nat) (H:i < a_e (b_m d s)):
  c_y d (t_L (a_S (b_m d s) i) s k)=(i / a_e (d.drop (s+1))*d.getD s 0+k)*a_e (d.drop (s+1))+i % a_e (d.drop (s+1)):=by
 have e:=j_P (d.getD s 0) k (d.drop (s+1)) (fun x D=>E.2.1 x (List.mem_of_mem_drop D)) (d.take s) i (fun x D=>E.2.1 x (List.mem_of_mem_take D)) H;rw [<- g_l d s h,List.length_take,Nat.min_eq_left (by omega)] at e;exact e
/-- The sums along the side s. -/
def p_l (d:List Nat) (s:Nat) (v:List Int):List Int:=(List.range (a_e (b_m d s))).map (s_P (d.getD s 0) (a_e (d.drop (s+1))) v)
theorem o_d (d:List Nat) (s:Nat) (v:List Int):(p_l d s v).length=a_e (b_m d s):=by simp [p_l]
theorem q_l (d:List Nat) (s:Nat) (v:List Int) (i:Nat) (h:i < a_e (b_m d s)):(p_l d s v).getD i 0=s_P (d.getD s 0) (a_e (d.drop (s+1))) v i:=a_J _ _ _ _ h
end Go.Proofs.YtcpbhhlepdgdkaaGreatDoor.Wd
namespace Go.Proofs.YtcpbhhlepdgdkaaGreatDoor.Wd
open Go.RowKit Fx
attribute [local go_sem] h_T h_U
theorem Hid.up_tz {w D:World} (h:Hid (Tz w)) (hb:Below w.heap.size w D):Hid (Tz D):=h.out.up hb
theorem k_G (T:Int):hold (rqI (hold (T / 18446744073709551616)*18446744073709551616+T % 18446744073709551616) 4294967296)=rnd T:=by
 unfold rnd;by_cases h:InR (T / 18446744073709551616)
 ·rw [hold_in h.1 h.2]
  congr 2
  omega
 ·unfold InR at h;unfold rqI hold
  split <;> split <;> (try split) <;> (try split) <;> (try split) <;> (try split) <;> (try split) <;> (try split) <;> omega
/-- A number of 128 bits that lies in two cells of a block, from o on, which may be written. -/
def LieA (W:World) (b o:Nat) (x:Int):Prop:=
 b < W.heap.size/\W.cell? ⟨b,o,none⟩=some (.int .i64 (x / 18446744073709551616))/\W.cell? ⟨b,o+1,none⟩=some (.int .u64 (x % 18446744073709551616))/\W.frozen? ⟨b,o,none⟩=false/\W.frozen? ⟨b,o+1,none⟩=false
theorem LieA.up {W W':World} {b o:Nat} {x:Int} (h:LieA W b o x) (hb:Below W.heap.size W W'):LieA W' b o x:=
 ⟨Nat.lt_of_lt_of_le h.1 hb.size,keep hb h.2.1,keep hb h.2.2.1,a_U hb h.2.1 h.2.2.2.1,a_U hb h.2.2.1 h.2.2.2.2⟩
theorem LieA.words {W:World} {b o:Nat} {x h l:Int} (H:LieA W b o x) (e:x=h*18446744073709551616+l) (E:0<=l) (D:l<=18446744073709551615):W.cell? ⟨b,o,none⟩=some (.int .i64 h)/\W.cell? ⟨b,o+1,none⟩=some (.int .u64 l):=by
 refine ⟨?_,?_⟩
 ·rw [H.2.1,show x / 18446744073709551616=h by omega]
 ·rw [H.2.2.1,show x % 18446744073709551616=l by omega]
theorem r_K (W:World) (b o:Nat) (D E:Value) {y0 y1:Value} (H:W.cell? ⟨b,o,none⟩=some y0) (I:W.cell? ⟨b,o+1,none⟩=some y1):
  ((W.setCell ⟨b,o,none⟩ D).setCell ⟨b,o+1,none⟩ E).cell? ⟨b,o,none⟩=some D/\((W.setCell ⟨b,o,none⟩ D).setCell ⟨b,o+1,none⟩ E).cell? ⟨b,o+1,none⟩=some E:=by
 refine ⟨?_,?_⟩
 ·rw [a_w (by omega)];exact b_p H
 ·exact b_p (by rw [a_w (by omega)];exact I)
theorem LieA.set {W:World} {b o:Nat} {x y yh yl:Int} (h:LieA W b o x) (D:yh=y / 18446744073709551616) (E:yl=y % 18446744073709551616):LieA ((W.setCell ⟨b,o,none⟩ (.int .i64 yh)).setCell ⟨b,o+1,none⟩ (.int .u64 yl)) b o y:=by
 obtain ⟨I,H⟩:=r_K W b o (.int .i64 yh) (.int .u64 yl) h.2.1 h.2.2.1;refine ⟨by simpa using h.1,?_,?_,?_,?_⟩
 ·rw [I,D]
 ·rw [H,E]
 ·rw [a_I,a_I];exact h.2.2.2.1
 ·rw [a_I,a_I];exact h.2.2.2.2
theorem LieA.off {W:World} {b o p:Nat} {x:Int} {y0 y1:Value} (h:LieA W b o x) (D:o+1 < p∨p+1 < o):LieA ((W.setCell ⟨b,p,none⟩ y0).setCell ⟨b,p+1,none⟩ y1) b o x:=by
 refine ⟨by simpa using h.1,?_,?_,?_,?_⟩
 ·rw [a_w (by omega),a_w (by omega)];exact h.2.1
 ·rw [a_w (by omega),a_w (by omega)];exact h.2.2.1
 ·rw [a_I,a_I];exact h.2.2.2.1
 ·rw [a_I,a_I];exact h.2.2.2.2
/-- All stands but the four cells of the block b from o on. -/
structure Near (b o:Nat) (W W':World):Prop where
 below:Below b W W'
 stay:Stay b W W'
 cell:∀ i,(i < o∨o+4<=i)->W'.cell? ⟨b,i,none⟩=W.cell? ⟨b,i,none⟩
 frozen:∀ i,W'.frozen? ⟨b,i,none⟩=W.frozen? ⟨b,i,none⟩
theorem Near.of {b o:Nat} {W W':World} (h:Below W.heap.size W W') (hb:b < W.heap.size):Near b o W W':=
 ⟨h.mono (Nat.le_of_lt hb),Stay.of h,fun i _=>(f_z h).1 _ _ hb,fun i=>(f_z h).2 _ _ hb⟩
theorem Near.trans {b o:Nat} {A B C:World} (h:Near b o A B) (k:Near b o B C):Near b o A C:=
 ⟨h.below.trans k.below,h.stay.trans k.stay,fun i D=>(k.cell i D).trans (h.cell i D),fun i=>(k.frozen i).trans (h.frozen i)⟩
theorem Near.set {b o:Nat} (W:World) (j:Nat) (x:Value) (E:o<=j) (D:j < o+4):Near b o W (W.setCell ⟨b,j,none⟩ x):=
 ⟨(Below.refl b W).setCell (p:=⟨b,j,none⟩) (Nat.le_refl _) x,(Stay.refl b W).set j x,fun i H=>a_w (by omega),fun i=>a_I _ _ _ _⟩
theorem LieA.near {W W':World} {b o p:Nat} {x:Int} (h:LieA W b p x) (D:Near b o W W') (E:p+1 < o∨o+4<=p):LieA W' b p x:=
 ⟨Nat.lt_of_lt_of_le h.1 D.below.size,by rw [D.cell _ (by omega)];exact h.2.1,by rw [D.cell _ (by omega)];exact h.2.2.1,by rw [D.frozen];exact h.2.2.2.1,by rw [D.frozen];exact h.2.2.2.2⟩
/-- A sum of products, at most m of them, in four cells. -/
def SumAt (W:World) (b o m:Nat) (T:Int):Prop:=
 ∃ A B:Int,A*18446744073709551616+B=T/\-(4611686018427387904*(m:Int))<=A/\A<=4611686018427387904*(m:Int)/\0<=B/\B<=18446744073709551616*(m:Int)/\LieA W b o A/\LieA W b (o+2) B
theorem SumAt.up {W W':World} {b o m:Nat} {T:Int} (h:SumAt W b o m T) (hb:Below W.heap.size W W'):SumAt W' b o m T:=by
 obtain ⟨A,B,e,L,H,J,D,E,I⟩:=h;exact ⟨A,B,e,L,H,J,D,E.up hb,I.up hb⟩
theorem SumAt.near {W W':World} {b o p m:Nat} {T:Int} (h:SumAt W b p m T) (D:Near b o W W') (O:p+4<=o∨o+4<=p):SumAt W' b p m T:=by
 obtain ⟨A,B,e,M,I,L,E,H,J⟩:=h;exact ⟨A,B,e,M,I,L,E,H.near D (by omega),J.near D (by omega)⟩
theorem SumAt.more {W:World} {b o m k:Nat} {T:Int} (h:SumAt W b o m T) (M:m<=k):SumAt W b o k T:=by
 obtain ⟨A,B,e,L,J,H,I,D,E⟩:=h;exact ⟨A,B,e,by omega,by omega,H,by omega,D,E⟩
theorem SumAt.lt {W:World} {b o m:Nat} {T:Int} (h:SumAt W b o m T):b < W.heap.size:=by
 obtain ⟨A,B,e,L,J,I,H,D,E⟩:=h;exact D.1
theorem g_X (b o m:Nat) (T X Y:Int) (hm:m<=1073741824) (hX:InR X) (hY:InR Y) (w:World) (hS:Hid (SumAt w b o m T)):
  Calls Tryz.prog 133 #[.pointer (some ⟨b,o,none⟩),.int .i64 X,.int .i64 Y] w fun e E=>e = .returned (.tuple #[])/\SumAt E b o (m+1) (T+X*Y)/\Near b o w E:=by
 obtain ⟨A,B,eT,au,ar,av,aq,LA,LB⟩:=hS.out;have hP:=o_b hX hY;have V:=fun W=>n_9 X Y hX hY W;obtain ⟨Pr,eP⟩:∃ P,X*Y=P:=⟨_,rfl⟩
 rw [eP] at hP V ⊢;obtain ⟨D,R,ep,p1,ay,p3,p4,Hp⟩:=words (v:=Pr) (by unfold InW;omega);have ap:(m:Int)<=1073741824:=by omega
 have aa:InR D:=⟨by omega,by omega⟩
 have aw:-4611686018427387904<=D/\D<=4611686018427387904:=by have:=Hp.out;omega
 obtain ⟨oh,ol,eo,o1,az,o3,o4,Ho⟩:=words (InR.w aa);obtain ⟨ah,al,ea,a1,a2,a3,a4,Ha⟩:=words (v:=A) (by unfold InW;omega);obtain ⟨J,I,af,ax,aE,aB,aA,am⟩:=words (v:=A+D) (by unfold InW;omega);obtain ⟨bh,bl,eb,b1,b2,b3,b4,Hb⟩:=words (v:=B) (by unfold InW;omega);obtain ⟨H,O,ak,aC,aG,aF,aD,ai⟩:=words (v:=B+R) (by unfold InW;omega);have el:wd R = .agg #[.int .i64 0,.int .u64 R]:=(k_E (by omega) (by omega)).symm
 have ao:∀ W:World,Calls Tryz.prog 166 #[.int .i64 X,.int .i64 Y] W fun e E=>e = .returned (.agg #[.int .i64 D,.int .u64 R])/\Below W.heap.size W E:=by
  intro W;have:=V W;rw [ep] at this;exact this
 have ag:∀ W:World,Calls Tryz.prog 19 #[.int .i64 D] W fun e E=>e = .returned (.agg #[.int .i64 oh,.int .u64 ol])/\Below W.heap.size W E:=by
  intro W;have:=of_any D aa W;rw [eo] at this;exact this
 have cA:∀ W:World,Calls Tryz.prog 11 #[.agg #[.int .i64 ah,.int .u64 al],.agg #[.int .i64 oh,.int .u64 ol]] W fun e E=>e = .returned (.agg #[.int .i64 J,.int .u64 I])/\Below W.heap.size W E:=by
  intro W;have:=j_O A D (by unfold InW;omega) (InR.w aa) (by unfold InW;omega) W;rw [ea,eo,af] at this;exact this
 have cB:∀ W:World,Calls Tryz.prog 11 #[.agg #[.int .i64 bh,.int .u64 bl],.agg #[.int .i64 0,.int .u64 R]] W fun e E=>e = .returned (.agg #[.int .i64 H,.int .u64 O])/\Below W.heap.size W E:=by
  intro W;have:=j_O B R (by unfold InW;omega) (by unfold InW;omega) (by unfold InW;omega) W;rw [eb,el,ak] at this;exact this
 have HL:Hid (LieA w b o A/\LieA w b (o+2) B):=⟨LA,LB⟩
 have HF:Hid (∀ E,LieA E b o (A+D)->LieA E b (o+2) (B+R)->SumAt E b o (m+1) (T+Pr)):=fun E h1 h2=>⟨A+D,B+R,by have:=Hp.out;omega,by push_cast;omega,by push_cast;omega,by omega,by push_cast;omega,h1,h2⟩
 clear eP hP V ep eo ea af eb ak el aa au ar av aq LA LB eT hS hm ap hX hY aw;haveI:Nonempty World:=⟨w⟩
 go_enter Tryz.func133,Tryz.ntmps133;go_wp2_with fail
 refine (ao _).mono ?_;rintro e w1 ⟨rfl,ac⟩;clear ao;go_wp2_with fail
 generalize ad:World.alloc _ _=W1;have an:Below w1.heap.size w1 W1:=by rw [<- ad];exact a_b w1 _
 have e0:W1.cell? ⟨w1.heap.size,0,none⟩=some (.int .i64 D):=by rw [<- ad];simp [go_sem]
 have e1:W1.cell? ⟨w1.heap.size,1,none⟩=some (.int .u64 R):=by rw [<- ad];simp [go_sem]
 have hB:Below w.heap.size w W1:=ac.trans (an.mono ac.size);have U:Hid (LieA W1 b o A/\LieA W1 b (o+2) B/\Near b o w W1):=⟨HL.out.1.up hB,HL.out.2.up hB,Near.of hB HL.out.1.1⟩
 obtain ⟨G,eG⟩:∃ G,w1.heap.size=G:=⟨_,rfl⟩
 have ae:b < G:=by rw [<- eG];exact Nat.lt_of_lt_of_le HL.out.1.1 ac.size
 rw [eG] at e0 e1 ⊢;have HG:Hid (b < G/\W1.cell? ⟨G,0,none⟩=some (.int .i64 D)/\W1.cell? ⟨G,1,none⟩=some (.int .u64 R)):=⟨ae,e0,e1⟩
 clear ad an hB ac eG HL;obtain ⟨c0,c1⟩:=U.out.1.words Ha.out a3 a4;have u0:=b_w c0;have u1:=b_w e0;refine j_B 11 32 (by kernel_rfl) rfl rfl (by kernel_rfl) ?_;apply Exists.intro;refine ⟨?_,?_⟩
 ·intro F hF;have hFc:=hF.cell;have hFf:=hF.frozen;simp only [List.take_succ_cons,List.take_zero,List.eraseIdx_cons_succ,List.eraseIdx_cons_zero]
  repeat (go_big_quiet_step (first|(go_at_call 19;with_reducible exact hF.call (ag _))|(go_at_call 11;with_reducible exact hF.call (cA _))))
  refine wpQuiet_nil ?_;exact rfl
 intro W2 L;simp only [List.drop_succ_cons,List.drop_zero];have M:=U.out.1.up L;have N1:=M.set (y:=A+D) (yh:=J) (yl:=I) (by have:=am.out;omega) (by have:=am.out;omega);have N2:=(U.out.2.1.up L).off (p:=o) (y0:=.int .i64 J) (y1:=.int .u64 I) (by omega);have N3:=((U.out.2.2.trans (Near.of L U.out.1.1)).trans (Near.set W2 o (.int .i64 J) (by omega) (by omega))).trans (Near.set _ (o+1) (.int .u64 I) (by omega) (by omega))
 have N4:((W2.setCell ⟨b,o,none⟩ (.int .i64 J)).setCell ⟨b,o+1,none⟩ (.int .u64 I)).cell? ⟨G,0,none⟩=some (.int .i64 D)/\((W2.setCell ⟨b,o,none⟩ (.int .i64 J)).setCell ⟨b,o+1,none⟩ (.int .u64 I)).cell? ⟨G,1,none⟩=some (.int .u64 R):=by
  have:=HG.out.1;refine ⟨?_,?_⟩
  ·rw [c_p (by omega),c_p (by omega)];exact keep L HG.out.2.1
  ·rw [c_p (by omega),c_p (by omega)];exact keep L HG.out.2.2
 obtain ⟨g0,g1,g2,g3,g4⟩:=M;clear L c0 c1 u0 u1 ag cA ae e0 e1 U;go_wp2_with fail
 refine a_P (fun W3 aj=>?_);rw [<- aj] at N1 N2 N3 N4;clear aj g0 g1 g2 g3 g4;have U:Hid (LieA W3 b o (A+D)/\LieA W3 b (o+2) B/\Near b o w W3):=⟨N1,N2,N3⟩
 obtain ⟨c0,c1⟩:=N2.words Hb.out b3 b4;obtain ⟨d0,d1⟩:=N4;have u0:=b_w c0;have u1:=b_w d0;clear N1 N2 N3;refine j_B 11 32 (by kernel_rfl) rfl rfl (by kernel_rfl) ?_;apply Exists.intro;refine ⟨?_,?_⟩
 ·intro F hF;have hFc:=hF.cell;have hFf:=hF.frozen;simp only [List.take_succ_cons,List.take_zero,List.eraseIdx_cons_succ,List.eraseIdx_cons_zero]
  repeat (go_big_quiet_step (first|(go_at_call 11;with_reducible exact hF.call (cB _))))
  refine wpQuiet_nil ?_;exact rfl
 intro W4 ab;simp only [List.drop_succ_cons,List.drop_zero];have M:=U.out.2.1.up ab;have N1:=M.set (y:=B+R) (yh:=H) (yl:=O) (by have:=ai.out;omega) (by have:=ai.out;omega);have N2:=(U.out.1.up ab).off (p:=o+2) (y0:=.int .i64 H) (y1:=.int .u64 O) (by omega);have N3:=((U.out.2.2.trans (Near.of ab U.out.1.1)).trans (Near.set W4 (o+2) (.int .i64 H) (by omega) (by omega))).trans (Near.set _ (o+2+1) (.int .u64 O) (by omega) (by omega));have HE:Hid (SumAt ((W4.setCell ⟨b,o+2,none⟩ (.int .i64 H)).setCell ⟨b,o+2+1,none⟩ (.int .u64 O)) b o (m+1) (T+Pr)/\Near b o w ((W4.setCell ⟨b,o+2,none⟩ (.int .i64 H)).setCell ⟨b,o+2+1,none⟩ (.int .u64 O))):=⟨HF.out _ N2 N1,N3⟩
 obtain ⟨g0,g1,g2,g3,g4⟩:=M;clear ab c0 c1 d0 d1 u0 u1 cB U N1 N2 N3 HF HG;go_wp2
 go_end0
 exact ⟨rfl,HE.out⟩
theorem o_e (b o m:Nat) (T:Int) (hm:m<=1073741824) (w:World) (hT:Hid (Tz w)) (hS:Hid (SumAt w b o m T)):
  Calls Tryz.prog 165 #[.pointer (some ⟨b,o,none⟩)] w fun e L=>e = .returned (.int .i64 (rnd T))/\Below w.heap.size w L:=by
 obtain ⟨A,B,eT,ar,aw,av,au,LA,LB⟩:=hS.out;have aq:(m:Int)<=1073741824:=by omega
 have HD:Hid (hold (rqI (hold (T / 18446744073709551616)*18446744073709551616+T % 18446744073709551616) 4294967296)=rnd T):=k_G T;obtain ⟨D,eD⟩:∃ D,rnd T=D:=⟨_,rfl⟩
 rw [eD] at HD ⊢;obtain ⟨ah,al,ea,a1,a2,a3,a4,Ha⟩:=words (v:=A) (by unfold InW;omega);obtain ⟨O,R,eb,b1,b2,b3,b4,Hb⟩:=words (v:=B) (by unfold InW;omega);have aa:InR O:=⟨b1,b2⟩
 obtain ⟨oh,ol,eo,o1,az,o3,o4,Ho⟩:=words (InR.w aa);have ao:B=O*18446744073709551616+R:=Hb.out;obtain ⟨J,I,af,ax,ay,aC,aB,aA⟩:=words (v:=A+O) (by unfold InW;omega);have eH:A+O=T / 18446744073709551616:=by omega
 have eL:R=T % 18446744073709551616:=by omega
 obtain ⟨H,U⟩:∃ H,hold (A+O)=H:=⟨_,rfl⟩
 have rH:InR H:=by rw [<- U];exact hold_rng _
 rw [<- eH,<- eL,U] at HD;have wS:InW (H*18446744073709551616+R):=by unfold InR at rH;unfold InW;omega
 obtain ⟨Q,eQ⟩:∃ Q,rqI (H*18446744073709551616+R) 4294967296=Q:=⟨_,rfl⟩
 have wQ:InW Q:=by rw [<- eQ];unfold rqI;unfold InW at wS ⊢;split <;> omega
 obtain ⟨qh,ql,eq,q1,q2,q3,q4,Hq⟩:=words wQ
 have ai:∀ W:World,Calls Tryz.prog 19 #[.int .i64 O] W fun e L=>e = .returned (.agg #[.int .i64 oh,.int .u64 ol])/\Below W.heap.size W L:=by
  intro W;have:=of_any O aa W;rw [eo] at this;exact this
 have cA:∀ W:World,Calls Tryz.prog 11 #[.agg #[.int .i64 ah,.int .u64 al],.agg #[.int .i64 oh,.int .u64 ol]] W fun e L=>e = .returned (.agg #[.int .i64 J,.int .u64 I])/\Below W.heap.size W L:=by
  intro W;have:=j_O A O (by unfold InW;omega) (InR.w aa) (by unfold InW;omega) W;rw [ea,eo,af] at this;exact this
 have cF:∀ W:World,Calls Tryz.prog 141 #[.agg #[.int .i64 J,.int .u64 I]] W fun e L=>e = .returned (.int .i64 H)/\Below W.heap.size W L:=by
  intro W;have:=e_y (A+O) (by unfold InW;omega) W;rw [af,U] at this;exact this
 have cS:Hid (∀ W:World,Below w.heap.size w W->Calls Tryz.prog 177 #[.agg #[.int .i64 H,.int .u64 R],.int .i64 32] W fun e L=>e = .returned (.agg #[.int .i64 qh,.int .u64 ql])/\Below W.heap.size W L):=fun W hW=>by
  have:=l_T (H*18446744073709551616+R) 32 wS (by unfold InR;omega) W (hT.out.up hW);rw [<- s_X H R ⟨b3,by omega⟩,if_neg (by omega),show (2:Int) ^ (32:Int).toNat=4294967296 from rfl,eQ,eq] at this;exact this
 have cG:∀ W:World,Calls Tryz.prog 141 #[.agg #[.int .i64 qh,.int .u64 ql]] W fun e L=>e = .returned (.int .i64 D)/\Below W.heap.size W L:=by
  intro W;have:=e_y Q wQ W;rw [eq,<- eQ,HD.out] at this;exact this
 have HL:Hid (LieA w b (o+2) B):=LB;obtain ⟨c0,c1⟩:=LA.words Ha.out a3 a4;obtain ⟨d0,d1⟩:=LB.words Hb.out b3 b4;have u0:=LA.1;clear HD ar aw av au eT eH eL U rH wS eQ wQ ea eb eo af eq aa ao LA LB hS hm aq eD;haveI:Nonempty World:=⟨w⟩
 go_enter Tryz.func165,Tryz.ntmps165;go_wp2_with fail
 refine d_7 (.cells #[.int .i64 0,.int .u64 0] 38) 11 12 27 3 (by kernel_rfl) rfl rfl (by kernel_rfl) rfl rfl rfl ?_;apply Exists.intro;refine ⟨?_,?_,?_⟩
 ·intro F hF;have hFc:=hF.cell;have hFf:=hF.frozen;simp only [List.take_succ_cons,List.take_zero,List.eraseIdx_cons_succ,List.eraseIdx_cons_zero]
  repeat (go_big_quiet_step (first|(go_at_call 19;with_reducible exact hF.call (ai _))|(go_at_call 11;with_reducible exact hF.call (cA _))))
  refine wpQuiet_nil ?_;exact rfl
 ·intro W
  kernel_rfl
 intro W6 g8 hW E;have Y0:=E.cell (i:=0) rfl;have Y1:=E.cell (i:=1) rfl;have Z0:=E.frozen 0;have Z1:=E.frozen 1;have ae:g8 < W6.heap.size:=E.1;have V:w.heap.size<=g8:=E.2.1;have N8:=two W6 g8 (.int .i64 J) (.int .u64 I) Y0 Y1;have M:=HL.out.up hW
 have N2:((W6.setCell ⟨g8,0,none⟩ (.int .i64 J)).setCell ⟨g8,1,none⟩ (.int .u64 I)).cell? ⟨b,o+2,none⟩=some (.int .i64 O)/\((W6.setCell ⟨g8,0,none⟩ (.int .i64 J)).setCell ⟨g8,1,none⟩ (.int .u64 I)).cell? ⟨b,o+2+1,none⟩=some (.int .u64 R):=by
  have:=M.words Hb.out b3 b4;refine ⟨?_,?_⟩
  ·rw [c_p (by omega),c_p (by omega)];exact this.1
  ·rw [c_p (by omega),c_p (by omega)];exact this.2
 have B6:=a_8 hW g8 V (.int .i64 J) (.int .u64 I);simp only [List.drop_succ_cons,List.drop_zero];unfold d_K;clear E hW ai cA c0 c1 d0 d1 u0 M;go_wp2_with fail
 refine a_P (fun W9 ak=>?_);rw [<- ak] at N8 N2 B6;clear ak Y0 Y1 Z0 Z1 ae;obtain ⟨c0,c1⟩:=N8;obtain ⟨d0,d1⟩:=N2;have u0:=b_w c0;have u1:=b_w d0;have ad:Hid (Below w.heap.size w W9):=B6;clear B6 V;refine d_7 (.cells #[.int .i64 0,.int .u64 0] 38) 8 9 27 4 (by kernel_rfl) rfl rfl (by kernel_rfl) rfl rfl rfl ?_;apply Exists.intro;refine ⟨?_,?_,?_⟩
 ·intro F hF;have hFc:=hF.cell;have hFf:=hF.frozen;simp only [List.take_succ_cons,List.take_zero,List.eraseIdx_cons_succ,List.eraseIdx_cons_zero]
  repeat (go_big_quiet_step (first|(go_at_call 141;with_reducible exact hF.call (cF _))))
  refine wpQuiet_nil ?_;exact rfl
 ·intro W
  kernel_rfl
 intro W7 g9 hW E;have Y0:=E.cell (i:=0) rfl;have Y1:=E.cell (i:=1) rfl;have Z0:=E.frozen 0;have Z1:=E.frozen 1;have ae:g9 < W7.heap.size:=E.1;have V:w.heap.size<=g9:=Nat.le_trans ad.out.size E.2.1;have N8:=two W7 g9 (.int .i64 H) (.int .u64 R) Y0 Y1;have B6:Hid (Below w.heap.size w ((W7.setCell ⟨g9,0,none⟩ (.int .i64 H)).setCell ⟨g9,1,none⟩ (.int .u64 R))):=a_8 (ad.out.trans (hW.mono ad.out.size)) g9 V _ _;have am:=B6.out;simp only [List.drop_succ_cons,List.drop_zero];unfold d_K;clear E hW cF c0 c1 d0 d1 u0 u1;go_wp2_with fail
 clear Y0 Y1 Z0 Z1 ae am N8;refine (cS.out _ B6.out).mono ?_;rintro e ag ⟨rfl,ab⟩;have aj:Hid (Below w.heap.size w ag):=B6.out.trans (ab.mono B6.out.size);clear ab cS;go_wp2_with fail
 refine (cG ag).mono ?_;rintro e ap ⟨rfl,ac⟩;have an:Hid (Below w.heap.size w ap):=aj.out.trans (ac.mono aj.out.size);clear ac cG;go_wp2;go_ret;exact ⟨rfl,an.out⟩
end Go.Proofs.YtcpbhhlepdgdkaaGreatDoor.Wd
namespace Go.Proofs.YtcpbhhlepdgdkaaGreatDoor.Wd
open Go.RowKit Fx
attribute [local go_sem] h_T h_U
/-- The words that lie there. -/
theorem Lies.words {W:World} {b:Nat} {x h l:Int} (H:Lies W b x) (e:x=h*18446744073709551616+l) (E:0<=l) (D:l<=18446744073709551615):W.cell? ⟨b,0,none⟩=some (.int .i64 h)/\W.cell? ⟨b,1,none⟩=some (.int .u64 l):=by
 refine ⟨?_,?_⟩
 ·rw [H.2.1,show x / 18446744073709551616=h by omega]
 ·rw [H.2.2.1,show x % 18446744073709551616=l by omega]
theorem f_B (p:Option Addr) (n c:Nat) (x:List Int) (hx:RI x) (hn:n<=4096) (w:World) (hv:Nums .i64 w (.slice p n c) x):
  Calls Tryz.prog 142 #[.slice p n c] w fun e U=>e = .returned (wd (b_v x))/\Below w.heap.size w U:=by
 obtain ⟨_,_,_,e4,HX⟩:=hv.lst;cases e4;have HS:Hid (b_v x=b_k (fun q=>x.getD q 0) n):=by show _=_;rw [b_v,HX.out.1]
 have HR:Hid (∀ k,k<=n->InW (b_k (fun q=>x.getD q 0) k)):=fun k hk=>by
  have h1:=g_W (f:=fun q=>x.getD q 0) (B:=9223372036854775808) (by omega) k fun q _=>by have:=b_H hx q;unfold InR at this;omega
  unfold InW;omega
 have HI:Hid (RI x):=hx;have aj:(n:Int)<=4096:=by omega
 obtain ⟨T,eT⟩:∃ T,b_v x=T:=⟨_,rfl⟩
 rw [eT] at HS ⊢;clear hv hx eT;haveI:Nonempty World:=⟨w⟩
 go_enter Tryz.func142,Tryz.ntmps142;go_wp2_with fail
 go_loopg [8] n (fun g i wr=>∃ (k:Nat),k<=n/\g=n - k/\i = .int .i64 (k:Int)/\Hid (Lies wr w.heap.size 0)/\Hid (Lies wr (w.heap.size+1) (b_k (fun q=>x.getD q 0) k))/\Hid (Below w.heap.size w wr))
 case atStart=>
  refine ⟨0,by omega,by omega,rfl,?_,?_,show Below _ _ _ by go_grown⟩
  ·show Lies _ _ _;unfold Lies;simp [go_sem]
  ·show Lies _ _ _;simp only [b_k];unfold Lies;simp [go_sem]
 case round=>
  obtain ⟨k,hk,hg,rfl,L0,H,HB⟩:=hrel;obtain ⟨R1,ag⟩:∃ R1:World,R1=wr:=⟨_,rfl⟩
  subst ag;by_cases ae:k < n
  ·have ah:(k:Int) < (n:Int):=by omega
   obtain ⟨q,o,rfl,V⟩:=HX.out.2 k ae;have ad:=a_d V HB.out;have ai:=b_w ad;have O:=b_H HI.out k;have I:=HR.out k hk;have wT:=HR.out (k+1) (by omega);obtain ⟨S,eS⟩:∃ S,b_k (fun q=>x.getD q 0) k=S:=⟨_,rfl⟩
   have E:b_k (fun q=>x.getD q 0) (k+1)=S+x.getD k 0:=by rw [b_k,eS]
   rw [E] at wT;obtain ⟨X,eX⟩:∃ X,x.getD k 0=X:=⟨_,rfl⟩
   rw [eX] at ad O wT E;rw [eS] at I H;have af:Hid (b_k (fun q=>x.getD q 0) (k+1)=S+X):=E;obtain ⟨R,sl,es,s1,s2,s3,s4,L⟩:=words I;obtain ⟨xh,xl,J,x1,x2,x3,x4,Hx⟩:=words (InR.w O);obtain ⟨th,tl,et,t1,t2,t3,t4,Ht⟩:=words wT
   have ab:∀ W:World,Calls Tryz.prog 19 #[.int .i64 X] W fun e U=>e = .returned (.agg #[.int .i64 xh,.int .u64 xl])/\Below W.heap.size W U:=by
    intro W;have:=of_any X O W;rw [J] at this;exact this
   have ac:∀ W:World,Calls Tryz.prog 11 #[.agg #[.int .i64 R,.int .u64 sl],.agg #[.int .i64 xh,.int .u64 xl]] W fun e U=>e = .returned (.agg #[.int .i64 th,.int .u64 tl])/\Below W.heap.size W U:=by
    intro W;have:=j_O S X I (InR.w O) wT W;rw [J,es,et] at this;exact this
   obtain ⟨q0,q1⟩:=H.out.words L.out s3 s4;have aa:=H.out.1;clear eS eX E V es J et O I wT;go_wp2_with fail
   refine j_B 4 18 (by kernel_rfl) rfl rfl (by kernel_rfl) ?_;apply Exists.intro;refine ⟨?_,?_⟩
   ·intro F hF;have hFc:=hF.cell;have hFf:=hF.frozen;simp only [List.take_succ_cons,List.take_zero,List.eraseIdx_cons_succ,List.eraseIdx_cons_zero]
    repeat (go_big_quiet_step (first|(go_at_call 19;with_reducible exact hF.call (ab _))|(go_at_call 11;with_reducible exact hF.call (ac _))))
    refine wpQuiet_nil ?_;exact rfl
   ·intro W2 D;simp only [List.drop_succ_cons,List.drop_zero];have M:=H.out.up D;have N0:Hid (Lies ((W2.setCell ⟨w.heap.size+1,0,none⟩ (.int .i64 th)).setCell ⟨w.heap.size+1,1,none⟩ (.int .u64 tl)) w.heap.size 0):=(L0.out.up D).off (by omega);have N1:Hid (Lies ((W2.setCell ⟨w.heap.size+1,0,none⟩ (.int .i64 th)).setCell ⟨w.heap.size+1,1,none⟩ (.int .u64 tl)) (w.heap.size+1) (S+X)):=M.set (by have:=Ht.out;omega) (by have:=Ht.out;omega);have B2:Hid (Below w.heap.size w ((W2.setCell ⟨w.heap.size+1,0,none⟩ (.int .i64 th)).setCell ⟨w.heap.size+1,1,none⟩ (.int .u64 tl))):=a_8 (HB.out.trans (D.mono HB.out.size)) _ (by omega) _ _;obtain ⟨g0,g1,g2,g3,g4⟩:=M;clear D ab ac q0 q1 aa L0 H HB;go_wp2;go_roundg (n - (k+1))
    case measure=>omega
    case rel=>exact ⟨k+1,by omega,rfl,by first|rfl|simp,N0,by rw [af.out];exact N1,B2⟩
  ·obtain rfl:k=n:=by omega
   have I:=HR.out k hk;rw [<- HS.out] at H I;obtain ⟨R,sl,es,s1,s2,s3,s4,L⟩:=words I;obtain ⟨q0,q1⟩:=H.out.words L.out s3 s4;obtain ⟨g0,g1,g2,g3,g4⟩:=L0.out;have aa:=H.out.1;have cf:=L0.out.set (y:=T) (yh:=R) (yl:=sl) (by have:=L.out;omega) (by have:=L.out;omega);have BF:=a_8 HB.out w.heap.size (Nat.le_refl _) (.int .i64 R) (.int .u64 sl);obtain ⟨y0,y1⟩:=cf.words L.out s3 s4;clear cf I;go_wp2;exact bodyPost_ret (v:=.agg #[.int .i64 R,.int .u64 sl]) (by simp [results,Tryz.results142,go_sem,y0,y1]) rfl ⟨by rw [es],BF⟩
end Go.Proofs.YtcpbhhlepdgdkaaGreatDoor.Wd
namespace Go.Proofs.YtcpbhhlepdgdkaaGreatDoor.Wd
open Go.RowKit Fx
end Go.Proofs.YtcpbhhlepdgdkaaGreatDoor.Wd
namespace Go.Proofs.YtcpbhhlepdgdkaaGreatDoor.Wd
open Go.RowKit
/-- What a cut of a row holds, whatever its elements' kind. -/
theorem g_Y {k:IntKind} {W:World} {p:Option Addr} {n E i j:Nat} {l:List Int} (h:i<=j) (V:j<=n) (hl:l.length=n) (hn:n<=E) (hb:Nums k W (.slice p n E) l):Nums k W (sliced p i j E 1) ((l.drop i).take (j - i)):=by
 rcases hb with ⟨e,rfl⟩|⟨I,c',e,O⟩
 ·cases e;obtain rfl:i=0:=by omega
  obtain rfl:j=0:=by omega
  exact .inl ⟨rfl,rfl⟩
 ·cases e;have D:((l.drop i).take (j - i)).length=j - i:=by simp;omega
  unfold sliced;by_cases c:E=i
  ·rw [if_pos c]
   exact .inr ⟨I,E - i,by rw [D],fun q u J=>by
    rw [a_4,List.getElem?_eq_none (by rw [List.length_map,D];omega)] at J;cases J⟩
  ·rw [if_neg c];refine .inr ⟨I.add (i*1),E - i,by rw [D];rfl,fun q u J=>?_⟩;rw [a_4,List.getElem?_map] at J;obtain ⟨x,H,rfl⟩:=Option.map_eq_some_iff.1 J
   have U:q < j - i:=by
    rcases Nat.lt_or_ge q (j - i) with h|h
    ·exact h
    ·rw [List.getElem?_eq_none (by rw [D];exact h)] at H;cases H
   rw [List.getElem?_take_of_lt U,List.getElem?_drop] at H;have R:=O (i+q) (.int k x) (by rw [a_4,List.getElem?_map,H];rfl);have M:=O 0 (.int k (l[0]'(by omega))) (by rw [a_4,List.getElem?_map,List.getElem?_eq_getElem (by omega)];rfl)
   have L:I=⟨I.block,I.off,none⟩:=c_4 (by
    have:I.add 0=I:=by simp [Addr.add]
    rw [this] at M;exact M)
   rw [L,a_t] at R;rw [L,Nat.mul_one,a_t,a_t,Nat.add_assoc];exact R
/-- The front of a row of one's own is one's own. -/
theorem OwnK.cut {k:IntKind} {e:TypeId} {W:World} {B:Nat} {p:Option Addr} {n c:Nat} {l:List Int} (h:OwnK k e W B (.slice p n c) l) (j:Nat) (L:j<=n):OwnK k e W B (sliced p 0 j c 1) (l.take j):=by
 obtain ⟨V,M⟩:=h;rcases M with ⟨H,h0⟩|⟨g,R,E,H,hb,U,hc,J,O,I⟩
 ·cases H;obtain rfl:j=0:=by omega
  rw [List.take_zero];exact ⟨rfl,.inl ⟨by simp [sliced],rfl⟩⟩
 ·cases H;have D:(l.take j).length=j:=by rw [List.length_take];omega
  refine ⟨by simp [a_4],.inr ⟨g,c,E,?_,hb,U,by omega,J,O,?_⟩⟩
  ·rw [D];simp [sliced,Addr.add]
  ·rw [D,Nat.mul_one];rw [Nat.mul_one] at I;have:E.toList.take j=(E.toList.take l.length).take j:=by rw [List.take_take,Nat.min_eq_left L]
   rw [this,I];simp [a_4]
/-- Without the frame's end: a cut is a slice of its own length. -/
theorem d_f (p:Option Addr) (i j D:Nat):∃ q,sliced p i j D 1 = .slice q (j - i) (D - i):=by
 unfold sliced;by_cases c:D=i
 ·rw [if_pos c];exact ⟨_,rfl⟩
 ·rw [if_neg c];exact ⟨_,rfl⟩
theorem r_L (p:Option Addr) (n D j:Nat) (H:j<=D) (W:World):Sem.run Tryz.prog (Instr.slice 22 (.slice p n D) none (some (.int .i64 (j:Int))) none) W = .ok (sliced p 0 j D 1) W:=by
 have E:∀ W,Sem.run Tryz.prog (sizeOf (Tryz.prog.elem 22)) W = .ok 1 W:=fun W=>by kernel_rfl
 have:=run_slice_h (P:=Tryz.prog) W 22 p n D (by kernel_rfl) .i64 (j:Int) (by omega) (by omega);rw [this,E];simp [Result.andThen]
theorem l_V (p:Option Addr) (n D i j:Nat) (h:i<=j) (H:j<=D) (W:World):Sem.run Tryz.prog (Instr.slice 26 (.slice p n D) (some (.int .i64 (i:Int))) (some (.int .i64 (j:Int))) none) W = .ok (sliced p i j D 1) W:=by
 have E:∀ W,Sem.run Tryz.prog (sizeOf (Tryz.prog.elem 26)) W = .ok 1 W:=fun W=>by kernel_rfl
 have:=run_slice_lh (P:=Tryz.prog) W 26 p n D (by kernel_rfl) .i64 .i64 (i:Int) (j:Int) (by omega) (by omega) (by omega);rw [this,E];simp [Result.andThen]
theorem r_M (p:Option Addr) (n D i:Nat) (h:i<=n) (W:World):Sem.run Tryz.prog (Instr.slice 26 (.slice p n D) (some (.int .i64 (i:Int))) none none) W = .ok (sliced p i n D 1) W:=by
 have E:∀ W,Sem.run Tryz.prog (sizeOf (Tryz.prog.elem 26)) W = .ok 1 W:=fun W=>by kernel_rfl
 have:=run_slice_l (P:=Tryz.prog) W 26 p n D (by kernel_rfl) .i64 (i:Int) (by omega) (by omega);rw [this,E];simp [Result.andThen]
theorem r_N (p:Option Addr) (n D j:Nat) (H:j<=D) (W:World):Sem.run Tryz.prog (Instr.slice 26 (.slice p n D) none (some (.int .i64 (j:Int))) none) W = .ok (sliced p 0 j D 1) W:=by
 have E:∀ W,Sem.run Tryz.prog (sizeOf (Tryz.prog.elem 26)) W = .ok 1 W:=fun W=>by kernel_rfl
 have:=run_slice_h (P:=Tryz.prog) W 26 p n D (by kernel_rfl) .i64 (j:Int) (by omega) (by omega);rw [this,E];simp [Result.andThen]
end Go.Proofs.YtcpbhhlepdgdkaaGreatDoor.Wd
namespace Go.Proofs.YtcpbhhlepdgdkaaGreatDoor.Kn
open Go.RowKit
variable {Y Y1 Y0 u v : Int}
/-- The dividend's next digit. -/
def dig (u v Y:Int):Int:=(u*4294967296+v) / Y
theorem r_O (D:0 < Y):dig u v Y*Y<=u*4294967296+v:=Int.ediv_mul_le _ (by omega)
theorem e_z (E:0 < Y) (D:0<=u) (H:0<=v):0<=dig u v Y:=Int.ediv_nonneg (by omega) (by omega)
theorem l_W (D:0 < Y) (E:u < Y) (H:v < 4294967296):dig u v Y < 4294967296:=by
 unfold dig;apply Int.ediv_lt_of_lt_mul D;omega
theorem h_W (D:0 < Y) (L:0 < Y1) (E:0<=Y0) (e:Y=Y1*4294967296+Y0) (I:0<=u) (O:0<=v) (J:v < 4294967296):dig u v Y<=u / Y1:=by
 rw [Int.le_ediv_iff_mul_le L];have h:=r_O (u:=u) (v:=v) D;have H:=e_z (Y:=Y) D I O;have M:0<=dig u v Y*Y0:=Int.mul_nonneg H E;rw [e,Int.mul_add,<- Int.mul_assoc] at h;rw [<- e] at h;omega
theorem p_m (E:2147483648<=Y1) (H:Y0 < 4294967296) (e:Y=Y1*4294967296+Y0) (D:u < Y):u / Y1<=4294967297:=by
 apply Int.le_of_lt_add_one;apply Int.ediv_lt_of_lt_mul (by omega);omega
theorem g_Z (q r:Int) (D:0 < Y) (H:u < Y) (E:v < 4294967296) (e:Y=Y1*4294967296+Y0) (I:q*Y1+r=u) (h:4294967296<=q∨4294967296*r+v < q*Y0):dig u v Y < q:=by
 rcases h with h|h
 ·have:=l_W D H E;omega
 ·unfold dig;apply Int.ediv_lt_of_lt_mul D;rw [e,Int.mul_add,<- Int.mul_assoc];omega
theorem g_0 (q r:Int) (E:0 < Y) (e:Y=Y1*4294967296+Y0) (H:q*Y1+r=u) (h:q*Y0<=4294967296*r+v) (D:dig u v Y<=q):q=dig u v Y:=by
 apply Int.le_antisymm _ D;unfold dig;rw [Int.le_ediv_iff_mul_le E,e,Int.mul_add,<- Int.mul_assoc];omega
theorem l_X (q r:Int) (L:0 < Y) (I:0<=Y0) (M:Y0 < 4294967296) (O:0<=v) (e:Y=Y1*4294967296+Y0) (E:q*Y1+r=u) (R:4294967296<=r) (H:0<=q) (D:q<=4294967296) (J:dig u v Y<=q):q=dig u v Y:=by
 apply g_0 q r L e E _ J;have:q*Y0<=4294967296*Y0:=Int.mul_le_mul_of_nonneg_right D I;omega
theorem g_1 (a b:Int):IntKind.u64.wrap (IntKind.u64.wrap a - IntKind.u64.wrap b)=IntKind.u64.wrap (a - b):=by
 simp only [IntKind.wrap_u64];omega
theorem g_2 (a b:Int):IntKind.u64.wrap (IntKind.u64.wrap a+b)=IntKind.u64.wrap (a+b):=by
 simp only [IntKind.wrap_u64];omega
theorem i_D (a:Int) (h:0<=a) (D:a < 18446744073709551616):IntKind.u64.wrap a=a:=by
 simp only [IntKind.wrap_u64];omega
theorem l_Y (D:0 < Y) (E:Y<=18446744073709551616):
  IntKind.u64.wrap (IntKind.u64.wrap (IntKind.u64.wrap (u*4294967296)+v) - IntKind.u64.wrap (dig u v Y*Y))=(u*4294967296+v) % Y:=by
 rw [g_2,g_1];have h:=Int.emod_add_mul_ediv (u*4294967296+v) Y
 have e:u*4294967296+v - dig u v Y*Y=(u*4294967296+v) % Y:=by
  unfold dig;rw [Int.mul_comm ((u*4294967296+v) / Y) Y];omega
 rw [e];have H:=Int.emod_nonneg (u*4294967296+v) (show Y≠0 by omega);have I:=Int.emod_lt_of_pos (u*4294967296+v) D;exact i_D _ H (by omega)
theorem g_m (H:0 < Y1) (E:Y1 < 4294967296) (I:0<=u) (D:u < 18446744073709551616):
  IntKind.u64.wrap (u - IntKind.u64.wrap (u / Y1*Y1))=u % Y1:=by
 have h:=Int.emod_add_mul_ediv u Y1;have a:=Int.emod_nonneg u (show Y1≠0 by omega);have b:=Int.emod_lt_of_pos u H;rw [Int.mul_comm] at h;simp only [IntKind.wrap_u64];omega
theorem start_eq:u / Y1*Y1+u % Y1=u:=by
 have h:=Int.emod_add_mul_ediv u Y1;rw [Int.mul_comm] at h;omega
theorem p_n (u v Y:Int):u*4294967296+v=dig u v Y*Y+(u*4294967296+v) % Y:=by
 have h:=Int.emod_add_mul_ediv (u*4294967296+v) Y;unfold dig;rw [Int.mul_comm Y] at h;omega
theorem r_P (a:Int) (h:0<=a) (E:a < 18446744073709551616):bits .and .u64 a 4294967295=a % 4294967296:=by
 have D:∀ n:Int,0<=n->n < 2 ^ 64->IntKind.u64.wrap n=n:=fun n H I=>by rw [IntKind.wrap_u64];omega
 exact bits_mask .u64 64 (by decide) D 32 (by decide) a h (by omega)
theorem o_f (y:Int) (H:0 < y) (I:y < 18446744073709551616):∃ s:Nat,s < 64/\Hid ((s:Int)=64 - (Lib.bitLen y.toNat:Int))/\9223372036854775808<=y*2 ^ s/\y*2 ^ s < 18446744073709551616:=by
 obtain ⟨n,rfl⟩:=Int.eq_ofNat_of_zero_le (show 0<=y by omega);have hb:=Lib.bitLenAux_bounds 64 n (by omega) (by omega);have E:=Lib.bitLen_le n 64 (by omega) (by omega)
 change 1<=Lib.bitLen n/\2 ^ (Lib.bitLen n - 1)<=n/\n < 2 ^ Lib.bitLen n at hb
 refine ⟨64 - Lib.bitLen n,by omega,by show _=_;simp only [Int.toNat_natCast];omega,?_,?_⟩
 ·have e:2 ^ (Lib.bitLen n - 1)*2 ^ (64 - Lib.bitLen n)=9223372036854775808:=by
   rw [<- Nat.pow_add,show Lib.bitLen n - 1+(64 - Lib.bitLen n)=63 by omega]
  have:=Nat.mul_le_mul_right (2 ^ (64 - Lib.bitLen n)) hb.2.1;rw [e] at this;have D:=Int.ofNat_le.2 this;rw [Int.natCast_mul,Int.natCast_pow] at D;exact D
 ·have e:2 ^ Lib.bitLen n*2 ^ (64 - Lib.bitLen n)=18446744073709551616:=by
   rw [<- Nat.pow_add,show Lib.bitLen n+(64 - Lib.bitLen n)=64 by omega]
  have:=Nat.mul_lt_mul_of_pos_right hb.2.2 (Nat.two_pow_pos (64 - Lib.bitLen n));rw [e] at this;have D:=Int.ofNat_lt.2 this;rw [Int.natCast_mul,Int.natCast_pow] at D;exact D
theorem q_m (E D y:Int) (s:Nat) (hh:E < y) (h0:0 < E) (hy:0 < y) (hs:s < 64) (hY:9223372036854775808<=y*2 ^ s/\y*2 ^ s < 18446744073709551616) (O:0<=D/\D < 18446744073709551616):
  bits .or .u64 (IntKind.u64.wrap (E*2 ^ s)) (D / 2 ^ (64 - s))=E*2 ^ s+D / 2 ^ (64 - s)/\IntKind.u64.wrap (D*2 ^ s)=D*2 ^ s % 18446744073709551616/\
  0<=E*2 ^ s+D / 2 ^ (64 - s)/\E*2 ^ s+D / 2 ^ (64 - s) < y*2 ^ s/\
  (E*18446744073709551616+D)*2 ^ s=(E*2 ^ s+D / 2 ^ (64 - s))*18446744073709551616+D*2 ^ s % 18446744073709551616:=by
 have hP:(0:Int) < 2 ^ s:=Int.pow_pos (by decide);have J:(0:Int) < 2 ^ (64 - s):=Int.pow_pos (by decide)
 have I:(2:Int) ^ (64 - s)*2 ^ s=18446744073709551616:=by
  rw [<- Int.pow_add,show 64 - s+s=64 by omega];rfl
 have H:(2:Int) ^ s*2 ^ (64 - s)=18446744073709551616:=by rw [Int.mul_comm];exact I
 have R:0<=D / 2 ^ (64 - s):=Int.ediv_nonneg O.1 (by omega);have q1:D / 2 ^ (64 - s) < 2 ^ s:=Int.ediv_lt_of_lt_mul J (by rw [H];exact O.2);have U:(E+1)*2 ^ s<=y*2 ^ s:=Int.mul_le_mul_of_nonneg_right (by omega) (by omega);rw [Int.add_mul] at U;have L:0<=E*2 ^ s:=Int.mul_nonneg (by omega) (by omega);have hw:∀ n:Int,0<=n->n < 2 ^ 64->IntKind.u64.wrap n=n:=fun n h0 h1=>by rw [IntKind.wrap_u64];omega
 refine ⟨?_,by rw [IntKind.wrap_u64],by omega,by omega,?_⟩
 ·rw [i_D _ L (by omega)]
  have M:(2:Int) ^ s<=2 ^ 64:=by
   rw [show (2:Int) ^ 64=18446744073709551616 from rfl,<- H];have:(2:Int) ^ s*1<=2 ^ s*2 ^ (64 - s):=Int.mul_le_mul_of_nonneg_left (by omega) (by omega);omega
  exact bits_join .u64 64 (by decide) hw s _ _ L (Int.mul_emod_left _ _) (by omega) R q1 (by omega)
 ·have hd:=Int.emod_add_mul_ediv D (2 ^ (64 - s));have r0:=Int.emod_nonneg D (show (2:Int) ^ (64 - s)≠0 by omega);have V:=Int.emod_lt_of_pos D J
  have e:D*2 ^ s=D / 2 ^ (64 - s)*18446744073709551616+D % 2 ^ (64 - s)*2 ^ s:=by
   rw [<- I];have:D*2 ^ s=(D % 2 ^ (64 - s)+2 ^ (64 - s)*(D / 2 ^ (64 - s)))*2 ^ s:=by rw [hd]
   rw [this,Int.add_mul,Int.mul_comm (2 ^ (64 - s)) (D / 2 ^ (64 - s)),Int.mul_assoc];omega
  have e2:D % 2 ^ (64 - s)*2 ^ s < 2 ^ (64 - s)*2 ^ s:=Int.mul_lt_mul_of_pos_right V hP;have e3:0<=D % 2 ^ (64 - s)*2 ^ s:=Int.mul_nonneg r0 (by omega);rw [I] at e2;rw [Int.add_mul,Int.add_mul,Int.mul_assoc E,Int.mul_comm 18446744073709551616 (2 ^ s),<- Int.mul_assoc];omega
theorem l_Z (N y P Y U L D E M H:Int) (V:0 < P) (J:Y=y*P) (hy:0 < y) (h0:0<=H) (h1:H < Y)
  (hN:N*P=U*18446744073709551616+L) (e1:U*4294967296+L / 4294967296=D*Y+M) (e2:M*4294967296+L % 4294967296=E*Y+H):
  N / y=D*4294967296+E/\H / P=N % y:=by
 have hA:N*P=(D*4294967296+E)*Y+H:=by
  rw [Int.add_mul,Int.mul_assoc,Int.mul_comm 4294967296 Y,<- Int.mul_assoc];omega
 have R:H=(N - (D*4294967296+E)*y)*P:=by
  rw [Int.sub_mul,hA,J,Int.mul_assoc];omega
 have I:H / P=N - (D*4294967296+E)*y:=by
  rw [R];exact Int.mul_ediv_cancel _ (by omega)
 have O:0<=N - (D*4294967296+E)*y:=by rw [<- I];exact Int.ediv_nonneg h0 (by omega)
 have p1:N - (D*4294967296+E)*y < y:=by
  rw [<- I];exact Int.ediv_lt_of_lt_mul V (by rw [<- J];exact h1)
 have:=(Int.ediv_emod_unique (a:=N) (b:=y) (r:=N - (D*4294967296+E)*y) (q:=D*4294967296+E) hy).2 ⟨by rw [Int.mul_comm];omega,O,p1⟩;exact ⟨this.1,by rw [I,this.2]⟩
end Go.Proofs.YtcpbhhlepdgdkaaGreatDoor.Kn
