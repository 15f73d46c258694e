/- A number of 128 bits that lies in the two cells of a block, which may be written. · Matrices, as lists of numbers: exact sums of products, rounded once; a product turned round; ones down the middle; sums along a side; the mean of numbers that are all alike. Nothing of the program is named here. · Sums of products, exact however great they grow, that lie in four cells of a block: what exact.Sum's Add and Fix do. · Sums of numbers, exact: what matm.total hands back. · Sums of products, rounded once: what matm.Dot hands back. · Cuts of rows of numbers: s[i:j], s[i:], s[:j]. · Long division of two -/
import Derived.Test.YtjlofobnmjompaaGreatDoorT05
import Derived.Test.YtjlofobnmjompaaGreatDoorT01
import Derived.Test.YtjlofobnmjompaaGreatDoorT00
import Derived.Test.YtjlofobnmjompaaGreatDoorT03
import Derived.RowKit
import Derived.Laws.Bits64b
import Derived.Laws.BitsLemmas
import Derived.Lib.BitFns
import Derived.WalkKit
import Derived.Lib.ItoaNum
set_option linter.unusedVariables false
set_option linter.unusedSimpArgs false
set_option maxHeartbeats 16000000
set_option maxRecDepth 16000
namespace Go.Proofs.YtjlofobnmjompaaGreatDoor.Wd
open Go.RowKit Fx
/-- A number that lies in the two cells of a block, which may be written. -/
def Lies (W:World) (b:Nat) (x:Int):Prop:=
 b < W.heap.size/\W.cell? ⟨b,0,none⟩=some (.int .i64 (x / 18446744073709551616))/\W.cell? ⟨b,1,none⟩=some (.int .u64 (x % 18446744073709551616))/\W.frozen? ⟨b,0,none⟩=false/\W.frozen? ⟨b,1,none⟩=false
theorem Lies.up {W W':World} {b:Nat} {x:Int} (h:Lies W b x) (hb:Below W.heap.size W W'):Lies W' b x:=
 ⟨Nat.lt_of_lt_of_le h.1 hb.size,keep hb h.2.1,keep hb h.2.2.1,a_V hb h.2.1 h.2.2.2.1,a_V hb h.2.2.1 h.2.2.2.2⟩
theorem a_H (W:World) (p q:Addr) (x:Value):(W.setCell p x).frozen? q=W.frozen? q:=by simp
theorem Lies.off {W:World} {b c:Nat} {x:Int} {y0 y1:Value} (h:Lies W b x) (D:b≠c):Lies ((W.setCell ⟨c,0,none⟩ y0).setCell ⟨c,1,none⟩ y1) b x:=by
 refine ⟨by simpa using h.1,?_,?_,?_,?_⟩
 ·rw [World.cell?_setCell_other _ _ _ _ (by simp;try omega),World.cell?_setCell_other _ _ _ _ (by simp;try omega)];exact h.2.1
 ·rw [World.cell?_setCell_other _ _ _ _ (by simp;try omega),World.cell?_setCell_other _ _ _ _ (by simp;try omega)];exact h.2.2.1
 ·rw [a_H,a_H];exact h.2.2.2.1
 ·rw [a_H,a_H];exact h.2.2.2.2
theorem Lies.set {W:World} {b:Nat} {x y yh yl:Int} (h:Lies W b x) (H:yh=y / 18446744073709551616) (I:yl=y % 18446744073709551616):Lies ((W.setCell ⟨b,0,none⟩ (.int .i64 yh)).setCell ⟨b,1,none⟩ (.int .u64 yl)) b y:=by
 obtain ⟨D,J⟩:=two W b (.int .i64 yh) (.int .u64 yl) h.2.1 h.2.2.1;refine ⟨by simpa using h.1,?_,?_,?_,?_⟩
 ·rw [D,H]
 ·rw [J,I]
 ·rw [a_H,a_H];exact h.2.2.2.1
 ·rw [a_H,a_H];exact h.2.2.2.2
theorem j_E (x y:Int) (J:InW x) (H:InW y) (D:InW (x+y)) (W:World):
  Calls Tryz.prog 17 #[wd x,wd y] W fun e I=>e = .returned (wd (x+y))/\Below W.heap.size W I:=by
 have:=add_any x y J H W;rw [n_P D] at this;exact this
theorem c_l {W:World} {b c i j:Nat} {x:Value} (h:c≠b):(W.setCell ⟨b,j,none⟩ x).cell? ⟨c,i,none⟩=W.cell? ⟨c,i,none⟩:=World.cell?_setCell_other _ _ _ _ (by simp;try omega)
theorem b_2 {B:Nat} {a w:World} (h:Below B a w) (b:Nat) (hb:B<=b) (D I H L J:Value):Below B a (((((w.setCell ⟨b,0,none⟩ D).setCell ⟨b,1,none⟩ I).setCell ⟨b,2,none⟩ H).setCell ⟨b,3,none⟩ L).setCell ⟨b,4,none⟩ J):=
 ((((h.setCell (p:=⟨b,0,none⟩) hb D).setCell (p:=⟨b,1,none⟩) hb I).setCell (p:=⟨b,2,none⟩) hb H).setCell (p:=⟨b,3,none⟩) hb L).setCell (p:=⟨b,4,none⟩) hb J
end Go.Proofs.YtjlofobnmjompaaGreatDoor.Wd
namespace Go.Proofs.YtjlofobnmjompaaGreatDoor.Wd
open Go.RowKit
open Fx
def b_i (f:Nat->Int):Nat->Int
 | 0=>0
 | n+1=>b_i f n+f n
theorem a_9 {f g:Nat->Int}:∀ n,(∀ k,k < n->f k=g k)->b_i f n=b_i g n
 | 0,_=>rfl
 | n+1,h=>by rw [b_i,b_i,a_9 n (fun k D=>h k (by omega)),h n (by omega)]
theorem g_Q {f:Nat->Int} {B:Int} (D:0<=B):∀ n,(∀ k,k < n->-B<=f k/\f k<=B)->-(B*n)<=b_i f n/\b_i f n<=B*n
 | 0,_=>by simp [b_i]
 | n+1,h=>by
  have J:=g_Q D n (fun k I=>h k (by omega));have L:=h n (by omega);have H:B*((n+1:Nat):Int)=B*n+B:=by push_cast;rw [Int.mul_add,Int.mul_one]
  rw [b_i,H];omega
theorem h_I (x:Int) (j:Nat):∀ n,b_i (fun q=>if q=j then x else 0) n=if j < n then x else 0
 | 0=>by simp [b_i]
 | n+1=>by
  rw [b_i,h_I x j n];by_cases D:n=j
  ·subst D;simp
  ·by_cases H:j < n
   ·simp [D,H];omega
   ·simp [D,H];omega
/-- A sum by 2^32, rounded once, held. -/
def rnd (x:Int):Int:=hold (rqI x 4294967296)
theorem n_T {a b:Int} (D:InR a) (hb:InR b):-85070591730234615865843651857942052864<=a*b/\a*b<=85070591730234615865843651857942052864:=by
 unfold InR at D hb
 have H:(a*b).natAbs<=9223372036854775808*9223372036854775808:=by
  rw [Int.natAbs_mul];exact Nat.mul_le_mul (by omega) (by omega)
 omega
theorem b_J {l:List Int} (h:∀ y,y∈l->InR y) (k:Nat):InR (l.getD k 0):=by
 by_cases D:k < l.length
 ·have:l.getD k 0=l[k]:=by simp [D]
  rw [this];exact h _ (List.getElem_mem D)
 ·rw [g_E _ _ _ (by omega)];unfold InR;omega
/-- The number at i of a product: k the side that meets, m the product's second side. -/
def t_x (k m:Nat) (a b:List Int) (i:Nat):Int:=rnd (b_i (fun q=>a.getD (i / m*k+q) 0*b.getD (q*m+i % m) 0) k)
def s_C (n k m:Nat) (a b:List Int):List Int:=(List.range (n*m)).map (t_x k m a b)
/-- Where the number i of a matrix of n by m turned round (m by n) stood. -/
def s_R (n m i:Nat):Nat:=i % n*m+i / n
def n_U (n m:Nat) (a:List Int):List Int:=(List.range (n*m)).map fun i=>a.getD (s_R n m i) 0
theorem c_N (p m r:Nat) (h:r < m):(p*m+r) / m=p:=by
 rw [Nat.mul_comm,Nat.mul_add_div (by omega),Nat.div_eq_of_lt h,Nat.add_zero]
theorem d_v (p m r:Nat) (h:r < m):(p*m+r) % m=r:=by
 rw [Nat.mul_comm,Nat.mul_add_mod,Nat.mod_eq_of_lt h]
theorem a_Y {p n m r:Nat} (D:p < n) (H:r < m):p*m+r < n*m:=by
 have:(p+1)*m<=n*m:=Nat.mul_le_mul_right m D;rw [Nat.add_mul] at this;omega
theorem d_8 {i n m:Nat} (h:i < n*m):i / n < m:=Nat.div_lt_of_lt_mul h
theorem d_9 {i n m:Nat} (h:i < n*m):0 < n:=by
 rcases Nat.eq_zero_or_pos n with D|D
 ·subst D;omega
 ·exact D
/-- A place with a number more at one side. -/
theorem j_F (c k:Nat) (D:List Nat) (I:∀ x,x∈D->1<=x):∀ (H:List Nat) (i:Nat),(∀ x,x∈H->1<=x)->i < a_e (H++D)->
  c_v (H++c :: D) ((a_S (H++D) i).take H.length++k :: (a_S (H++D) i).drop H.length)=(i / a_e D*c+k)*a_e D+i % a_e D
 | [],i,_,J=>by
  have J:i < a_e D:=J;simp only [List.nil_append,List.length_nil,List.take_zero,List.drop_zero,c_v];rw [d_n D i I J,Nat.div_eq_of_lt J,Nat.mod_eq_of_lt J];simp
 | x :: H,i,hp,J=>by
  have hR:1<=a_e (H++D):=a_C fun y M=>by
   rcases List.mem_append.1 M with h|h
   ·exact hp y (List.mem_cons_of_mem _ h)
   ·exact I y h
  have ih:=j_F c k D I H (i % a_e (H++D)) (fun y M=>hp y (List.mem_cons_of_mem _ M)) (Nat.mod_lt _ hR);simp only [List.cons_append,a_S,List.length_cons,List.take_succ_cons,List.drop_succ_cons,c_v];rw [ih];have hP:=a_C I;have R:a_e (H++c :: D)=a_e H*(c*a_e D):=by rw [a_E,a_e]
  have U:=a_E H D;rw [R,U];have L:=Nat.div_add_mod i (a_e H*a_e D);generalize a_e H=A at *;generalize a_e D=P at *;generalize i / (A*P)=y at *;generalize i % (A*P)=j at *
  have O:i=P*(A*y)+j:=by
   rw [<- L,Nat.mul_comm A P,Nat.mul_assoc]
  have h4:i / P=A*y+j / P:=by rw [O,Nat.mul_add_div (by omega)]
  have V:i % P=j % P:=by rw [O,Nat.mul_add_mod]
  rw [h4,V]
  have h6:((A*y+j / P)*c+k)*P=y*(A*(c*P))+(j / P*c+k)*P:=by
   rw [Nat.add_mul (A*y),Nat.add_assoc,Nat.add_mul (A*y*c)]
   congr 1
   rw [Nat.mul_assoc (A*y),Nat.mul_comm A y,Nat.mul_assoc y]
  rw [h6,Nat.add_assoc]
/-- The number at i of the sum along a side of c, P the product of the sides behind it. -/
def s_D (c P:Nat) (v:List Int) (i:Nat):Int:=hold (b_i (fun k=>v.getD ((i / P*c+k)*P+i % P) 0) c)
def b_v (v:List Int):Int:=b_i (fun k=>v.getD k 0) v.length
def f_X (v:List Int):Int:=hold (rqI (b_v v) v.length)
theorem l_J {v:List Int} (D:∀ y,y∈v->InR y):-(9223372036854775808*(v.length:Int))<=b_v v/\b_v v<=9223372036854775808*v.length:=
 g_Q (by omega) _ fun k _=>by have:=b_J D k;unfold InR at this;omega
/-- A shape without one of its sides. -/
def b_j (d:List Nat) (s:Nat):List Nat:=d.take s++d.drop (s+1)
theorem g_f (d:List Nat) (s:Nat) (h:s < d.length):d=d.take s++d.getD s 0 :: d.drop (s+1):=by
 have e:d.getD s 0=d[s]:=by simp [h]
 rw [e,<- List.drop_eq_getElem_cons h,List.take_append_drop]
theorem d_w (d:List Nat) (s:Nat) (h:s < d.length):a_e (b_j d s)*d.getD s 0=a_e d:=by
 have e:=congrArg a_e (g_f d s h);rw [a_E,a_e] at e;rw [b_j,a_E,e,Nat.mul_assoc,Nat.mul_comm (a_e (d.drop (s+1)))]
theorem j_G {d:List Nat} (D:goodN d) (s:Nat) (h:s < d.length):1<=d.getD s 0:=by
 have e:d.getD s 0=d[s]:=by simp [h]
 rw [e];exact D.2.1 _ (List.getElem_mem h)
theorem d_a {d:List Nat} (D:goodN d) (s:Nat) (h:s < d.length):goodN (b_j d s):=by
 refine ⟨?_,fun x H=>?_,?_⟩
 ·have:=D.1;simp only [b_j,List.length_append,List.length_take,List.length_drop];omega
 ·rcases List.mem_append.1 H with h|h
  ·exact D.2.1 x (List.mem_of_mem_take h)
  ·exact D.2.1 x (List.mem_of_mem_drop h)
 ·have I:=d_w d s h;have J:a_e (b_j d s)*1<=a_e (b_j d s)*d.getD s 0:=Nat.mul_le_mul_left _ (j_G D s h);have:=D.2.2;omega
/-- A place of the shape without the side s, with k there. -/
def t_y (p:List Nat) (s k:Nat):List Nat:=p.take s++k :: p.drop s
theorem p_Z {d:List Nat} (H:goodN d) (s:Nat) (h:s < d.length) (i k:Nat) (I:i < a_e (b_j d s)):
  c_v d (t_y (a_S (b_j d s) i) s k)=(i / a_e (d.drop (s+1))*d.getD s 0+k)*a_e (d.drop (s+1))+i % a_e (d.drop (s+1)):=by
 have e:=j_F (d.getD s 0) k (d.drop (s+1)) (fun x D=>H.2.1 x (List.mem_of_mem_drop D)) (d.take s) i (fun x D=>H.2.1 x (List.mem_of_mem_take D)) I;rw [<- g_f d s h,List.length_take,Nat.min_eq_left (by omega)] at e;exact e
/-- The sums along the side s. -/
def o_6 (d:List Nat) (s:Nat) (v:List Int):List Int:=(List.range (a_e (b_j d s))).map (s_D (d.getD s 0) (a_e (d.drop (s+1))) v)
theorem n_V (d:List Nat) (s:Nat) (v:List Int):(o_6 d s v).length=a_e (b_j d s):=by simp [o_6]
theorem p_0 (d:List Nat) (s:Nat) (v:List Int) (i:Nat) (h:i < a_e (b_j d s)):(o_6 d s v).getD i 0=s_D (d.getD s 0) (a_e (d.drop (s+1))) v i:=a_I _ _ _ _ h
end Go.Proofs.YtjlofobnmjompaaGreatDoor.Wd
namespace Go.Proofs.YtjlofobnmjompaaGreatDoor.Wd
open Go.RowKit Fx
attribute [local go_sem] h_G h_H
theorem Hid.up_tz {w D:World} (h:Hid (Tz w)) (hb:Below w.heap.size w D):Hid (Tz D):=h.out.up hb
theorem k_y (T:Int):hold (rqI (hold (T / 18446744073709551616)*18446744073709551616+T % 18446744073709551616) 4294967296)=rnd T:=by
 unfold rnd;by_cases h:InR (T / 18446744073709551616)
 ·rw [hold_in h.1 h.2]
  congr 2
  omega
 ·unfold InR at h;unfold rqI hold
  split <;> split <;> (try split) <;> (try split) <;> (try split) <;> (try split) <;> (try split) <;> (try split) <;> omega
/-- A number of 128 bits that lies in two cells of a block, from o on, which may be written. -/
def LieA (W:World) (b o:Nat) (x:Int):Prop:=
 b < W.heap.size/\W.cell? ⟨b,o,none⟩=some (.int .i64 (x / 18446744073709551616))/\W.cell? ⟨b,o+1,none⟩=some (.int .u64 (x % 18446744073709551616))/\W.frozen? ⟨b,o,none⟩=false/\W.frozen? ⟨b,o+1,none⟩=false
theorem LieA.up {W W':World} {b o:Nat} {x:Int} (h:LieA W b o x) (hb:Below W.heap.size W W'):LieA W' b o x:=
 ⟨Nat.lt_of_lt_of_le h.1 hb.size,keep hb h.2.1,keep hb h.2.2.1,a_V hb h.2.1 h.2.2.2.1,a_V hb h.2.2.1 h.2.2.2.2⟩
theorem LieA.words {W:World} {b o:Nat} {x h l:Int} (H:LieA W b o x) (e:x=h*18446744073709551616+l) (I:0<=l) (D:l<=18446744073709551615):W.cell? ⟨b,o,none⟩=some (.int .i64 h)/\W.cell? ⟨b,o+1,none⟩=some (.int .u64 l):=by
 refine ⟨?_,?_⟩
 ·rw [H.2.1,show x / 18446744073709551616=h by omega]
 ·rw [H.2.2.1,show x % 18446744073709551616=l by omega]
theorem r_s (W:World) (b o:Nat) (D H:Value) {y0 y1:Value} (J:W.cell? ⟨b,o,none⟩=some y0) (I:W.cell? ⟨b,o+1,none⟩=some y1):
  ((W.setCell ⟨b,o,none⟩ D).setCell ⟨b,o+1,none⟩ H).cell? ⟨b,o,none⟩=some D/\((W.setCell ⟨b,o,none⟩ D).setCell ⟨b,o+1,none⟩ H).cell? ⟨b,o+1,none⟩=some H:=by
 refine ⟨?_,?_⟩
 ·rw [a_x (by omega)];exact b_I J
 ·exact b_I (by rw [a_x (by omega)];exact I)
theorem LieA.set {W:World} {b o:Nat} {x y yh yl:Int} (h:LieA W b o x) (H:yh=y / 18446744073709551616) (I:yl=y % 18446744073709551616):LieA ((W.setCell ⟨b,o,none⟩ (.int .i64 yh)).setCell ⟨b,o+1,none⟩ (.int .u64 yl)) b o y:=by
 obtain ⟨D,J⟩:=r_s W b o (.int .i64 yh) (.int .u64 yl) h.2.1 h.2.2.1;refine ⟨by simpa using h.1,?_,?_,?_,?_⟩
 ·rw [D,H]
 ·rw [J,I]
 ·rw [a_H,a_H];exact h.2.2.2.1
 ·rw [a_H,a_H];exact h.2.2.2.2
theorem LieA.off {W:World} {b o p:Nat} {x:Int} {y0 y1:Value} (h:LieA W b o x) (D:o+1 < p∨p+1 < o):LieA ((W.setCell ⟨b,p,none⟩ y0).setCell ⟨b,p+1,none⟩ y1) b o x:=by
 refine ⟨by simpa using h.1,?_,?_,?_,?_⟩
 ·rw [a_x (by omega),a_x (by omega)];exact h.2.1
 ·rw [a_x (by omega),a_x (by omega)];exact h.2.2.1
 ·rw [a_H,a_H];exact h.2.2.2.1
 ·rw [a_H,a_H];exact h.2.2.2.2
/-- All stands but the four cells of the block b from o on. -/
structure Near (b o:Nat) (W W':World):Prop where
 below:Below b W W'
 stay:Stay b W W'
 cell:∀ i,(i < o∨o+4<=i)->W'.cell? ⟨b,i,none⟩=W.cell? ⟨b,i,none⟩
 frozen:∀ i,W'.frozen? ⟨b,i,none⟩=W.frozen? ⟨b,i,none⟩
theorem Near.of {b o:Nat} {W W':World} (h:Below W.heap.size W W') (hb:b < W.heap.size):Near b o W W':=
 ⟨h.mono (Nat.le_of_lt hb),Stay.of h,fun i _=>(f_v h).1 _ _ hb,fun i=>(f_v h).2 _ _ hb⟩
theorem Near.trans {b o:Nat} {A B C:World} (h:Near b o A B) (k:Near b o B C):Near b o A C:=
 ⟨h.below.trans k.below,h.stay.trans k.stay,fun i D=>(k.cell i D).trans (h.cell i D),fun i=>(k.frozen i).trans (h.frozen i)⟩
theorem Near.set {b o:Nat} (W:World) (j:Nat) (x:Value) (D:o<=j) (H:j < o+4):Near b o W (W.setCell ⟨b,j,none⟩ x):=
 ⟨(Below.refl b W).setCell (p:=⟨b,j,none⟩) (Nat.le_refl _) x,(Stay.refl b W).set j x,fun i I=>a_x (by omega),fun i=>a_H _ _ _ _⟩
theorem LieA.near {W W':World} {b o p:Nat} {x:Int} (h:LieA W b p x) (D:Near b o W W') (H:p+1 < o∨o+4<=p):LieA W' b p x:=
 ⟨Nat.lt_of_lt_of_le h.1 D.below.size,by rw [D.cell _ (by omega)];exact h.2.1,by rw [D.cell _ (by omega)];exact h.2.2.1,by rw [D.frozen];exact h.2.2.2.1,by rw [D.frozen];exact h.2.2.2.2⟩
/-- A sum of products, at most m of them, in four cells. -/
def SumAt (W:World) (b o m:Nat) (T:Int):Prop:=
 ∃ A B:Int,A*18446744073709551616+B=T/\-(4611686018427387904*(m:Int))<=A/\A<=4611686018427387904*(m:Int)/\0<=B/\B<=18446744073709551616*(m:Int)/\LieA W b o A/\LieA W b (o+2) B
theorem SumAt.up {W W':World} {b o m:Nat} {T:Int} (h:SumAt W b o m T) (hb:Below W.heap.size W W'):SumAt W' b o m T:=by
 obtain ⟨A,B,e,D,I,L,J,H,M⟩:=h;exact ⟨A,B,e,D,I,L,J,H.up hb,M.up hb⟩
theorem SumAt.near {W W':World} {b o p m:Nat} {T:Int} (h:SumAt W b p m T) (D:Near b o W W') (R:p+4<=o∨o+4<=p):SumAt W' b p m T:=by
 obtain ⟨A,B,e,H,J,M,L,I,O⟩:=h;exact ⟨A,B,e,H,J,M,L,I.near D (by omega),O.near D (by omega)⟩
theorem SumAt.more {W:World} {b o m k:Nat} {T:Int} (h:SumAt W b o m T) (O:m<=k):SumAt W b o k T:=by
 obtain ⟨A,B,e,J,L,H,M,D,I⟩:=h;exact ⟨A,B,e,by omega,by omega,H,by omega,D,I⟩
theorem SumAt.lt {W:World} {b o m:Nat} {T:Int} (h:SumAt W b o m T):b < W.heap.size:=by
 obtain ⟨A,B,e,H,I,J,L,D,M⟩:=h;exact D.1
theorem g_R (b o m:Nat) (T X Y:Int) (hm:m<=1073741824) (hX:InR X) (hY:InR Y) (w:World) (hS:Hid (SumAt w b o m T)):
  Calls Tryz.prog 144 #[.pointer (some ⟨b,o,none⟩),.int .i64 X,.int .i64 Y] w fun e H=>e = .returned (.tuple #[])/\SumAt H b o (m+1) (T+X*Y)/\Near b o w H:=by
 obtain ⟨A,B,eT,au,ax,ar,aq,LA,LB⟩:=hS.out;have hP:=n_T hX hY;have aa:=fun W=>n_R X Y hX hY W;obtain ⟨Pr,eP⟩:∃ P,X*Y=P:=⟨_,rfl⟩
 rw [eP] at hP aa ⊢;obtain ⟨D,U,ep,p1,az,p3,p4,Hp⟩:=words (v:=Pr) (by unfold InW;omega);have av:(m:Int)<=1073741824:=by omega
 have ac:InR D:=⟨by omega,by omega⟩
 have aw:-4611686018427387904<=D/\D<=4611686018427387904:=by have:=Hp.out;omega
 obtain ⟨oh,ol,eo,o1,aE,o3,o4,Ho⟩:=words (InR.w ac);obtain ⟨ah,al,ea,a1,a2,a3,a4,Ha⟩:=words (v:=A) (by unfold InW;omega);obtain ⟨O,R,ai,aB,aH,aF,aD,aj⟩:=words (v:=A+D) (by unfold InW;omega);obtain ⟨bh,bl,eb,b1,b2,b3,b4,Hb⟩:=words (v:=B) (by unfold InW;omega);obtain ⟨J,I,ak,aA,ay,aC,aG,ap⟩:=words (v:=B+U) (by unfold InW;omega);have el:wd U = .agg #[.int .i64 0,.int .u64 U]:=(k_w (by omega) (by omega)).symm
 have am:∀ W:World,Calls Tryz.prog 177 #[.int .i64 X,.int .i64 Y] W fun e H=>e = .returned (.agg #[.int .i64 D,.int .u64 U])/\Below W.heap.size W H:=by
  intro W;have:=aa W;rw [ep] at this;exact this
 have ao:∀ W:World,Calls Tryz.prog 31 #[.int .i64 D] W fun e H=>e = .returned (.agg #[.int .i64 oh,.int .u64 ol])/\Below W.heap.size W H:=by
  intro W;have:=of_any D ac W;rw [eo] at this;exact this
 have cA:∀ W:World,Calls Tryz.prog 17 #[.agg #[.int .i64 ah,.int .u64 al],.agg #[.int .i64 oh,.int .u64 ol]] W fun e H=>e = .returned (.agg #[.int .i64 O,.int .u64 R])/\Below W.heap.size W H:=by
  intro W;have:=j_E A D (by unfold InW;omega) (InR.w ac) (by unfold InW;omega) W;rw [ea,eo,ai] at this;exact this
 have cB:∀ W:World,Calls Tryz.prog 17 #[.agg #[.int .i64 bh,.int .u64 bl],.agg #[.int .i64 0,.int .u64 U]] W fun e H=>e = .returned (.agg #[.int .i64 J,.int .u64 I])/\Below W.heap.size W H:=by
  intro W;have:=j_E B U (by unfold InW;omega) (by unfold InW;omega) (by unfold InW;omega) W;rw [eb,el,ak] at this;exact this
 have HL:Hid (LieA w b o A/\LieA w b (o+2) B):=⟨LA,LB⟩
 have HF:Hid (∀ H,LieA H b o (A+D)->LieA H b (o+2) (B+U)->SumAt H b o (m+1) (T+Pr)):=fun H h1 h2=>⟨A+D,B+U,by have:=Hp.out;omega,by push_cast;omega,by push_cast;omega,by omega,by push_cast;omega,h1,h2⟩
 clear eP hP aa ep eo ea ai eb ak el ac au ax ar aq LA LB eT hS hm av hX hY aw;haveI:Nonempty World:=⟨w⟩
 go_enter Tryz.func144,Tryz.ntmps144;go_wp2_with fail
 refine (am _).mono ?_;rintro e w1 ⟨rfl,ab⟩;clear am;go_wp2_with fail
 generalize ae:World.alloc _ _=W1;have ag:Below w1.heap.size w1 W1:=by rw [<- ae];exact a_b w1 _
 have e0:W1.cell? ⟨w1.heap.size,0,none⟩=some (.int .i64 D):=by rw [<- ae];simp [go_sem]
 have e1:W1.cell? ⟨w1.heap.size,1,none⟩=some (.int .u64 U):=by rw [<- ae];simp [go_sem]
 have hB:Below w.heap.size w W1:=ab.trans (ag.mono ab.size);have V:Hid (LieA W1 b o A/\LieA W1 b (o+2) B/\Near b o w W1):=⟨HL.out.1.up hB,HL.out.2.up hB,Near.of hB HL.out.1.1⟩
 obtain ⟨G,eG⟩:∃ G,w1.heap.size=G:=⟨_,rfl⟩
 have af:b < G:=by rw [<- eG];exact Nat.lt_of_lt_of_le HL.out.1.1 ab.size
 rw [eG] at e0 e1 ⊢;have HG:Hid (b < G/\W1.cell? ⟨G,0,none⟩=some (.int .i64 D)/\W1.cell? ⟨G,1,none⟩=some (.int .u64 U)):=⟨af,e0,e1⟩
 clear ae ag hB ab eG HL;obtain ⟨c0,c1⟩:=V.out.1.words Ha.out a3 a4;have u0:=b_y c0;have u1:=b_y e0;refine j_r 11 32 (by kernel_rfl) rfl rfl (by kernel_rfl) ?_;apply Exists.intro;refine ⟨?_,?_⟩
 ·intro F hF;have hFc:=hF.cell;have hFf:=hF.frozen;simp only [List.take_succ_cons,List.take_zero,List.eraseIdx_cons_succ,List.eraseIdx_cons_zero]
  repeat (go_big_quiet_step (first|(go_at_call 31;with_reducible exact hF.call (ao _))|(go_at_call 17;with_reducible exact hF.call (cA _))))
  refine wpQuiet_nil ?_;exact rfl
 intro W2 L;simp only [List.drop_succ_cons,List.drop_zero];have M:=V.out.1.up L;have N1:=M.set (y:=A+D) (yh:=O) (yl:=R) (by have:=aj.out;omega) (by have:=aj.out;omega);have N2:=(V.out.2.1.up L).off (p:=o) (y0:=.int .i64 O) (y1:=.int .u64 R) (by omega);have N3:=((V.out.2.2.trans (Near.of L V.out.1.1)).trans (Near.set W2 o (.int .i64 O) (by omega) (by omega))).trans (Near.set _ (o+1) (.int .u64 R) (by omega) (by omega))
 have N4:((W2.setCell ⟨b,o,none⟩ (.int .i64 O)).setCell ⟨b,o+1,none⟩ (.int .u64 R)).cell? ⟨G,0,none⟩=some (.int .i64 D)/\((W2.setCell ⟨b,o,none⟩ (.int .i64 O)).setCell ⟨b,o+1,none⟩ (.int .u64 R)).cell? ⟨G,1,none⟩=some (.int .u64 U):=by
  have:=HG.out.1;refine ⟨?_,?_⟩
  ·rw [c_l (by omega),c_l (by omega)];exact keep L HG.out.2.1
  ·rw [c_l (by omega),c_l (by omega)];exact keep L HG.out.2.2
 obtain ⟨g0,g1,g2,g3,g4⟩:=M;clear L c0 c1 u0 u1 ao cA af e0 e1 V;go_wp2_with fail
 refine a_P (fun W3 an=>?_);rw [<- an] at N1 N2 N3 N4;clear an g0 g1 g2 g3 g4;have V:Hid (LieA W3 b o (A+D)/\LieA W3 b (o+2) B/\Near b o w W3):=⟨N1,N2,N3⟩
 obtain ⟨c0,c1⟩:=N2.words Hb.out b3 b4;obtain ⟨d0,d1⟩:=N4;have u0:=b_y c0;have u1:=b_y d0;clear N1 N2 N3;refine j_r 11 32 (by kernel_rfl) rfl rfl (by kernel_rfl) ?_;apply Exists.intro;refine ⟨?_,?_⟩
 ·intro F hF;have hFc:=hF.cell;have hFf:=hF.frozen;simp only [List.take_succ_cons,List.take_zero,List.eraseIdx_cons_succ,List.eraseIdx_cons_zero]
  repeat (go_big_quiet_step (first|(go_at_call 17;with_reducible exact hF.call (cB _))))
  refine wpQuiet_nil ?_;exact rfl
 intro W4 ad;simp only [List.drop_succ_cons,List.drop_zero];have M:=V.out.2.1.up ad;have N1:=M.set (y:=B+U) (yh:=J) (yl:=I) (by have:=ap.out;omega) (by have:=ap.out;omega);have N2:=(V.out.1.up ad).off (p:=o+2) (y0:=.int .i64 J) (y1:=.int .u64 I) (by omega);have N3:=((V.out.2.2.trans (Near.of ad V.out.1.1)).trans (Near.set W4 (o+2) (.int .i64 J) (by omega) (by omega))).trans (Near.set _ (o+2+1) (.int .u64 I) (by omega) (by omega));have HE:Hid (SumAt ((W4.setCell ⟨b,o+2,none⟩ (.int .i64 J)).setCell ⟨b,o+2+1,none⟩ (.int .u64 I)) b o (m+1) (T+Pr)/\Near b o w ((W4.setCell ⟨b,o+2,none⟩ (.int .i64 J)).setCell ⟨b,o+2+1,none⟩ (.int .u64 I))):=⟨HF.out _ N2 N1,N3⟩
 obtain ⟨g0,g1,g2,g3,g4⟩:=M;clear ad c0 c1 d0 d1 u0 u1 cB V N1 N2 N3 HF HG;go_wp2
 go_end0
 exact ⟨rfl,HE.out⟩
theorem n_W (b o m:Nat) (T:Int) (hm:m<=1073741824) (w:World) (hT:Hid (Tz w)) (hS:Hid (SumAt w b o m T)):
  Calls Tryz.prog 176 #[.pointer (some ⟨b,o,none⟩)] w fun e O=>e = .returned (.int .i64 (rnd T))/\Below w.heap.size w O:=by
 obtain ⟨A,B,eT,ap,ax,aw,aq,LA,LB⟩:=hS.out;have av:(m:Int)<=1073741824:=by omega
 have HD:Hid (hold (rqI (hold (T / 18446744073709551616)*18446744073709551616+T % 18446744073709551616) 4294967296)=rnd T):=k_y T;obtain ⟨D,eD⟩:∃ D,rnd T=D:=⟨_,rfl⟩
 rw [eD] at HD ⊢;obtain ⟨ah,al,ea,a1,a2,a3,a4,Ha⟩:=words (v:=A) (by unfold InW;omega);obtain ⟨R,U,eb,b1,b2,b3,b4,Hb⟩:=words (v:=B) (by unfold InW;omega);have ab:InR R:=⟨b1,b2⟩
 obtain ⟨oh,ol,eo,o1,az,o3,o4,Ho⟩:=words (InR.w ab);have ao:B=R*18446744073709551616+U:=Hb.out;obtain ⟨L,J,af,aD,aC,aA,ay,aB⟩:=words (v:=A+R) (by unfold InW;omega);have eH:A+R=T / 18446744073709551616:=by omega
 have eL:U=T % 18446744073709551616:=by omega
 obtain ⟨H,V⟩:∃ H,hold (A+R)=H:=⟨_,rfl⟩
 have rH:InR H:=by rw [<- V];exact hold_rng _
 rw [<- eH,<- eL,V] at HD;have wS:InW (H*18446744073709551616+U):=by unfold InR at rH;unfold InW;omega
 obtain ⟨Q,eQ⟩:∃ Q,rqI (H*18446744073709551616+U) 4294967296=Q:=⟨_,rfl⟩
 have wQ:InW Q:=by rw [<- eQ];unfold rqI;unfold InW at wS ⊢;split <;> omega
 obtain ⟨qh,ql,eq,q1,q2,q3,q4,Hq⟩:=words wQ
 have ak:∀ W:World,Calls Tryz.prog 31 #[.int .i64 R] W fun e O=>e = .returned (.agg #[.int .i64 oh,.int .u64 ol])/\Below W.heap.size W O:=by
  intro W;have:=of_any R ab W;rw [eo] at this;exact this
 have cA:∀ W:World,Calls Tryz.prog 17 #[.agg #[.int .i64 ah,.int .u64 al],.agg #[.int .i64 oh,.int .u64 ol]] W fun e O=>e = .returned (.agg #[.int .i64 L,.int .u64 J])/\Below W.heap.size W O:=by
  intro W;have:=j_E A R (by unfold InW;omega) (InR.w ab) (by unfold InW;omega) W;rw [ea,eo,af] at this;exact this
 have cF:∀ W:World,Calls Tryz.prog 152 #[.agg #[.int .i64 L,.int .u64 J]] W fun e O=>e = .returned (.int .i64 H)/\Below W.heap.size W O:=by
  intro W;have:=e_v (A+R) (by unfold InW;omega) W;rw [af,V] at this;exact this
 have cS:Hid (∀ W:World,Below w.heap.size w W->Calls Tryz.prog 188 #[.agg #[.int .i64 H,.int .u64 U],.int .i64 32] W fun e O=>e = .returned (.agg #[.int .i64 qh,.int .u64 ql])/\Below W.heap.size W O):=fun W hW=>by
  have:=l_I (H*18446744073709551616+U) 32 wS (by unfold InR;omega) W (hT.out.up hW);rw [<- s_K H U ⟨b3,by omega⟩,if_neg (by omega),show (2:Int) ^ (32:Int).toNat=4294967296 from rfl,eQ,eq] at this;exact this
 have cG:∀ W:World,Calls Tryz.prog 152 #[.agg #[.int .i64 qh,.int .u64 ql]] W fun e O=>e = .returned (.int .i64 D)/\Below W.heap.size W O:=by
  intro W;have:=e_v Q wQ W;rw [eq,<- eQ,HD.out] at this;exact this
 have HL:Hid (LieA w b (o+2) B):=LB;obtain ⟨c0,c1⟩:=LA.words Ha.out a3 a4;obtain ⟨d0,d1⟩:=LB.words Hb.out b3 b4;have u0:=LA.1;clear HD ap ax aw aq eT eH eL V rH wS eQ wQ ea eb eo af eq ab ao LA LB hS hm av eD;haveI:Nonempty World:=⟨w⟩
 go_enter Tryz.func176,Tryz.ntmps176;go_wp2_with fail
 refine d_1 (.cells #[.int .i64 0,.int .u64 0] 45) 11 12 27 3 (by kernel_rfl) rfl rfl (by kernel_rfl) rfl rfl rfl ?_;apply Exists.intro;refine ⟨?_,?_,?_⟩
 ·intro F hF;have hFc:=hF.cell;have hFf:=hF.frozen;simp only [List.take_succ_cons,List.take_zero,List.eraseIdx_cons_succ,List.eraseIdx_cons_zero]
  repeat (go_big_quiet_step (first|(go_at_call 31;with_reducible exact hF.call (ak _))|(go_at_call 17;with_reducible exact hF.call (cA _))))
  refine wpQuiet_nil ?_;exact rfl
 ·intro W
  kernel_rfl
 intro W6 g8 hW I;have Y0:=I.cell (i:=0) rfl;have Y1:=I.cell (i:=1) rfl;have Z0:=I.frozen 0;have Z1:=I.frozen 1;have ae:g8 < W6.heap.size:=I.1;have aa:w.heap.size<=g8:=I.2.1;have N8:=two W6 g8 (.int .i64 L) (.int .u64 J) Y0 Y1;have M:=HL.out.up hW
 have N2:((W6.setCell ⟨g8,0,none⟩ (.int .i64 L)).setCell ⟨g8,1,none⟩ (.int .u64 J)).cell? ⟨b,o+2,none⟩=some (.int .i64 R)/\((W6.setCell ⟨g8,0,none⟩ (.int .i64 L)).setCell ⟨g8,1,none⟩ (.int .u64 J)).cell? ⟨b,o+2+1,none⟩=some (.int .u64 U):=by
  have:=M.words Hb.out b3 b4;refine ⟨?_,?_⟩
  ·rw [c_l (by omega),c_l (by omega)];exact this.1
  ·rw [c_l (by omega),c_l (by omega)];exact this.2
 have B6:=a_7 hW g8 aa (.int .i64 L) (.int .u64 J);simp only [List.drop_succ_cons,List.drop_zero];unfold d_F;clear I hW ak cA c0 c1 d0 d1 u0 M;go_wp2_with fail
 refine a_P (fun W9 am=>?_);rw [<- am] at N8 N2 B6;clear am Y0 Y1 Z0 Z1 ae;obtain ⟨c0,c1⟩:=N8;obtain ⟨d0,d1⟩:=N2;have u0:=b_y c0;have u1:=b_y d0;have ag:Hid (Below w.heap.size w W9):=B6;clear B6 aa;refine d_1 (.cells #[.int .i64 0,.int .u64 0] 45) 8 9 27 4 (by kernel_rfl) rfl rfl (by kernel_rfl) rfl rfl rfl ?_;apply Exists.intro;refine ⟨?_,?_,?_⟩
 ·intro F hF;have hFc:=hF.cell;have hFf:=hF.frozen;simp only [List.take_succ_cons,List.take_zero,List.eraseIdx_cons_succ,List.eraseIdx_cons_zero]
  repeat (go_big_quiet_step (first|(go_at_call 152;with_reducible exact hF.call (cF _))))
  refine wpQuiet_nil ?_;exact rfl
 ·intro W
  kernel_rfl
 intro W7 g9 hW I;have Y0:=I.cell (i:=0) rfl;have Y1:=I.cell (i:=1) rfl;have Z0:=I.frozen 0;have Z1:=I.frozen 1;have ae:g9 < W7.heap.size:=I.1;have aa:w.heap.size<=g9:=Nat.le_trans ag.out.size I.2.1;have N8:=two W7 g9 (.int .i64 H) (.int .u64 U) Y0 Y1;have B6:Hid (Below w.heap.size w ((W7.setCell ⟨g9,0,none⟩ (.int .i64 H)).setCell ⟨g9,1,none⟩ (.int .u64 U))):=a_7 (ag.out.trans (hW.mono ag.out.size)) g9 aa _ _;have an:=B6.out;simp only [List.drop_succ_cons,List.drop_zero];unfold d_F;clear I hW cF c0 c1 d0 d1 u0 u1;go_wp2_with fail
 clear Y0 Y1 Z0 Z1 ae an N8;refine (cS.out _ B6.out).mono ?_;rintro e aj ⟨rfl,ac⟩;have ai:Hid (Below w.heap.size w aj):=B6.out.trans (ac.mono B6.out.size);clear ac cS;go_wp2_with fail
 refine (cG aj).mono ?_;rintro e ar ⟨rfl,ad⟩;have au:Hid (Below w.heap.size w ar):=ai.out.trans (ad.mono ai.out.size);clear ad cG;go_wp2;go_ret;exact ⟨rfl,au.out⟩
end Go.Proofs.YtjlofobnmjompaaGreatDoor.Wd
namespace Go.Proofs.YtjlofobnmjompaaGreatDoor.Wd
open Go.RowKit Fx
attribute [local go_sem] h_G h_H
/-- The words that lie there. -/
theorem Lies.words {W:World} {b:Nat} {x h l:Int} (H:Lies W b x) (e:x=h*18446744073709551616+l) (I:0<=l) (D:l<=18446744073709551615):W.cell? ⟨b,0,none⟩=some (.int .i64 h)/\W.cell? ⟨b,1,none⟩=some (.int .u64 l):=by
 refine ⟨?_,?_⟩
 ·rw [H.2.1,show x / 18446744073709551616=h by omega]
 ·rw [H.2.2.1,show x % 18446744073709551616=l by omega]
theorem f_x (p:Option Addr) (n c:Nat) (x:List Int) (hx:RI x) (hn:n<=4096) (w:World) (hv:Nums .i64 w (.slice p n c) x):
  Calls Tryz.prog 153 #[.slice p n c] w fun e w'=>e = .returned (wd (b_v x))/\Below w.heap.size w w':=by
 obtain ⟨_,_,_,e4,HX⟩:=hv.lst;cases e4;have HS:Hid (b_v x=b_i (fun q=>x.getD q 0) n):=by show _=_;rw [b_v,HX.out.1]
 have HR:Hid (∀ k,k<=n->InW (b_i (fun q=>x.getD q 0) k)):=fun k hk=>by
  have h1:=g_Q (f:=fun q=>x.getD q 0) (B:=9223372036854775808) (by omega) k fun q _=>by have:=b_J hx q;unfold InR at this;omega
  unfold InW;omega
 have HI:Hid (RI x):=hx;have ah:(n:Int)<=4096:=by omega
 obtain ⟨T,eT⟩:∃ T,b_v x=T:=⟨_,rfl⟩
 rw [eT] at HS ⊢;clear hv hx eT;haveI:Nonempty World:=⟨w⟩
 go_enter Tryz.func153,Tryz.ntmps153;go_wp2_with fail
 go_loopg [8] n (fun g i wr=>∃ (k:Nat),k<=n/\g=n - k/\i = .int .i64 (k:Int)/\Hid (Lies wr w.heap.size 0)/\Hid (Lies wr (w.heap.size+1) (b_i (fun q=>x.getD q 0) k))/\Hid (Below w.heap.size w wr))
 case atStart=>
  refine ⟨0,by omega,by omega,rfl,?_,?_,show Below _ _ _ by go_grown⟩
  ·show Lies _ _ _;unfold Lies;simp [go_sem]
  ·show Lies _ _ _;simp only [b_i];unfold Lies;simp [go_sem]
 case round=>
  obtain ⟨k,hk,hg,rfl,L0,J,HB⟩:=hrel;obtain ⟨R1,af⟩:∃ R1:World,R1=wr:=⟨_,rfl⟩
  subst af;by_cases ae:k < n
  ·have ai:(k:Int) < (n:Int):=by omega
   obtain ⟨q,o,rfl,R⟩:=HX.out.2 k ae;have ab:=a_d R HB.out;have ag:=b_y ab;have hX:=b_J HI.out k;have I:=HR.out k hk;have V:=HR.out (k+1) (by omega);obtain ⟨S,eS⟩:∃ S,b_i (fun q=>x.getD q 0) k=S:=⟨_,rfl⟩
   have D:b_i (fun q=>x.getD q 0) (k+1)=S+x.getD k 0:=by rw [b_i,eS]
   rw [D] at V;obtain ⟨X,eX⟩:∃ X,x.getD k 0=X:=⟨_,rfl⟩
   rw [eX] at ab hX V D;rw [eS] at I J;have ad:Hid (b_i (fun q=>x.getD q 0) (k+1)=S+X):=D;obtain ⟨sh,sl,es,s1,s2,s3,s4,O⟩:=words I;obtain ⟨xh,xl,L,x1,x2,x3,x4,Hx⟩:=words (InR.w hX);obtain ⟨th,tl,et,t1,t2,t3,t4,Ht⟩:=words V
   have ac:∀ W:World,Calls Tryz.prog 31 #[.int .i64 X] W fun e w'=>e = .returned (.agg #[.int .i64 xh,.int .u64 xl])/\Below W.heap.size W w':=by
    intro W;have:=of_any X hX W;rw [L] at this;exact this
   have U:∀ W:World,Calls Tryz.prog 17 #[.agg #[.int .i64 sh,.int .u64 sl],.agg #[.int .i64 xh,.int .u64 xl]] W fun e w'=>e = .returned (.agg #[.int .i64 th,.int .u64 tl])/\Below W.heap.size W w':=by
    intro W;have:=j_E S X I (InR.w hX) V W;rw [L,es,et] at this;exact this
   obtain ⟨q0,q1⟩:=J.out.words O.out s3 s4;have aa:=J.out.1;clear eS eX D R es L et hX I V;go_wp2_with fail
   refine j_r 4 18 (by kernel_rfl) rfl rfl (by kernel_rfl) ?_;apply Exists.intro;refine ⟨?_,?_⟩
   ·intro F hF;have hFc:=hF.cell;have hFf:=hF.frozen;simp only [List.take_succ_cons,List.take_zero,List.eraseIdx_cons_succ,List.eraseIdx_cons_zero]
    repeat (go_big_quiet_step (first|(go_at_call 31;with_reducible exact hF.call (ac _))|(go_at_call 17;with_reducible exact hF.call (U _))))
    refine wpQuiet_nil ?_;exact rfl
   ·intro W2 H;simp only [List.drop_succ_cons,List.drop_zero];have M:=J.out.up H;have N0:Hid (Lies ((W2.setCell ⟨w.heap.size+1,0,none⟩ (.int .i64 th)).setCell ⟨w.heap.size+1,1,none⟩ (.int .u64 tl)) w.heap.size 0):=(L0.out.up H).off (by omega);have N1:Hid (Lies ((W2.setCell ⟨w.heap.size+1,0,none⟩ (.int .i64 th)).setCell ⟨w.heap.size+1,1,none⟩ (.int .u64 tl)) (w.heap.size+1) (S+X)):=M.set (by have:=Ht.out;omega) (by have:=Ht.out;omega);have B2:Hid (Below w.heap.size w ((W2.setCell ⟨w.heap.size+1,0,none⟩ (.int .i64 th)).setCell ⟨w.heap.size+1,1,none⟩ (.int .u64 tl))):=a_7 (HB.out.trans (H.mono HB.out.size)) _ (by omega) _ _;obtain ⟨g0,g1,g2,g3,g4⟩:=M;clear H ac U q0 q1 aa L0 J HB;go_wp2;go_roundg (n - (k+1))
    case measure=>omega
    case rel=>exact ⟨k+1,by omega,rfl,by first|rfl|simp,N0,by rw [ad.out];exact N1,B2⟩
  ·obtain rfl:k=n:=by omega
   have I:=HR.out k hk;rw [<- HS.out] at J I;obtain ⟨sh,sl,es,s1,s2,s3,s4,O⟩:=words I;obtain ⟨q0,q1⟩:=J.out.words O.out s3 s4;obtain ⟨g0,g1,g2,g3,g4⟩:=L0.out;have aa:=J.out.1;have cf:=L0.out.set (y:=T) (yh:=sh) (yl:=sl) (by have:=O.out;omega) (by have:=O.out;omega);have BF:=a_7 HB.out w.heap.size (Nat.le_refl _) (.int .i64 sh) (.int .u64 sl);obtain ⟨y0,y1⟩:=cf.words O.out s3 s4;clear cf I;go_wp2;exact bodyPost_ret (v:=.agg #[.int .i64 sh,.int .u64 sl]) (by simp [results,Tryz.results153,go_sem,y0,y1]) rfl ⟨by rw [es],BF⟩
end Go.Proofs.YtjlofobnmjompaaGreatDoor.Wd
namespace Go.Proofs.YtjlofobnmjompaaGreatDoor.Wd
open Go.RowKit Fx
end Go.Proofs.YtjlofobnmjompaaGreatDoor.Wd
namespace Go.Proofs.YtjlofobnmjompaaGreatDoor.Wd
open Go.RowKit
/-- What a cut of a row holds, whatever its elements' kind. -/
theorem g_S {k:IntKind} {W:World} {p:Option Addr} {n H i j:Nat} {l:List Int} (h:i<=j) (h2:j<=n) (hl:l.length=n) (hn:n<=H) (hb:Nums k W (.slice p n H) l):Nums k W (sliced p i j H 1) ((l.drop i).take (j - i)):=by
 rcases hb with ⟨e,rfl⟩|⟨J,c',e,R⟩
 ·cases e;obtain rfl:i=0:=by omega
  obtain rfl:j=0:=by omega
  exact .inl ⟨rfl,rfl⟩
 ·cases e;have D:((l.drop i).take (j - i)).length=j - i:=by simp;omega
  unfold sliced;by_cases c:H=i
  ·rw [if_pos c]
   exact .inr ⟨J,H - i,by rw [D],fun q u L=>by
    rw [b_c,List.getElem?_eq_none (by rw [List.length_map,D];omega)] at L;cases L⟩
  ·rw [if_neg c];refine .inr ⟨J.add (i*1),H - i,by rw [D];rfl,fun q u L=>?_⟩;rw [b_c,List.getElem?_map] at L;obtain ⟨x,I,rfl⟩:=Option.map_eq_some_iff.1 L
   have V:q < j - i:=by
    rcases Nat.lt_or_ge q (j - i) with h|h
    ·exact h
    ·rw [List.getElem?_eq_none (by rw [D];exact h)] at I;cases I
   rw [List.getElem?_take_of_lt V,List.getElem?_drop] at I;have O:=R (i+q) (.int k x) (by rw [b_c,List.getElem?_map,I];rfl);have U:=R 0 (.int k (l[0]'(by omega))) (by rw [b_c,List.getElem?_map,List.getElem?_eq_getElem (by omega)];rfl)
   have M:J=⟨J.block,J.off,none⟩:=c_2 (by
    have:J.add 0=J:=by simp [Addr.add]
    rw [this] at U;exact U)
   rw [M,a_u] at O;rw [M,Nat.mul_one,a_u,a_u,Nat.add_assoc];exact O
/-- The front of a row of one's own is one's own. -/
theorem OwnK.cut {k:IntKind} {e:TypeId} {W:World} {B:Nat} {p:Option Addr} {n c:Nat} {l:List Int} (h:OwnK k e W B (.slice p n c) l) (j:Nat) (L:j<=n):OwnK k e W B (sliced p 0 j c 1) (l.take j):=by
 obtain ⟨hl,M⟩:=h;rcases M with ⟨I,h0⟩|⟨g,U,H,I,hb,O,hc,V,R,J⟩
 ·cases I;obtain rfl:j=0:=by omega
  rw [List.take_zero];exact ⟨rfl,.inl ⟨by simp [sliced],rfl⟩⟩
 ·cases I;have D:(l.take j).length=j:=by rw [List.length_take];omega
  refine ⟨by simp [b_c],.inr ⟨g,c,H,?_,hb,O,by omega,V,R,?_⟩⟩
  ·rw [D];simp [sliced,Addr.add]
  ·rw [D,Nat.mul_one];rw [Nat.mul_one] at J;have:H.toList.take j=(H.toList.take l.length).take j:=by rw [List.take_take,Nat.min_eq_left L]
   rw [this,J];simp [b_c]
/-- Without the frame's end: a cut is a slice of its own length. -/
theorem d_b (p:Option Addr) (i j D:Nat):∃ q,sliced p i j D 1 = .slice q (j - i) (D - i):=by
 unfold sliced;by_cases c:D=i
 ·rw [if_pos c];exact ⟨_,rfl⟩
 ·rw [if_neg c];exact ⟨_,rfl⟩
theorem r_t (p:Option Addr) (n D j:Nat) (I:j<=D) (W:World):Sem.run Tryz.prog (Instr.slice 30 (.slice p n D) none (some (.int .i64 (j:Int))) none) W = .ok (sliced p 0 j D 1) W:=by
 have H:∀ W,Sem.run Tryz.prog (sizeOf (Tryz.prog.elem 30)) W = .ok 1 W:=fun W=>by kernel_rfl
 have:=run_slice_h (P:=Tryz.prog) W 30 p n D (by kernel_rfl) .i64 (j:Int) (by omega) (by omega);rw [this,H];simp [Result.andThen]
theorem l_K (p:Option Addr) (n D i j:Nat) (h:i<=j) (I:j<=D) (W:World):Sem.run Tryz.prog (Instr.slice 24 (.slice p n D) (some (.int .i64 (i:Int))) (some (.int .i64 (j:Int))) none) W = .ok (sliced p i j D 1) W:=by
 have H:∀ W,Sem.run Tryz.prog (sizeOf (Tryz.prog.elem 24)) W = .ok 1 W:=fun W=>by kernel_rfl
 have:=run_slice_lh (P:=Tryz.prog) W 24 p n D (by kernel_rfl) .i64 .i64 (i:Int) (j:Int) (by omega) (by omega) (by omega);rw [this,H];simp [Result.andThen]
theorem r_u (p:Option Addr) (n D i:Nat) (h:i<=n) (W:World):Sem.run Tryz.prog (Instr.slice 24 (.slice p n D) (some (.int .i64 (i:Int))) none none) W = .ok (sliced p i n D 1) W:=by
 have H:∀ W,Sem.run Tryz.prog (sizeOf (Tryz.prog.elem 24)) W = .ok 1 W:=fun W=>by kernel_rfl
 have:=run_slice_l (P:=Tryz.prog) W 24 p n D (by kernel_rfl) .i64 (i:Int) (by omega) (by omega);rw [this,H];simp [Result.andThen]
theorem r_v (p:Option Addr) (n D j:Nat) (I:j<=D) (W:World):Sem.run Tryz.prog (Instr.slice 24 (.slice p n D) none (some (.int .i64 (j:Int))) none) W = .ok (sliced p 0 j D 1) W:=by
 have H:∀ W,Sem.run Tryz.prog (sizeOf (Tryz.prog.elem 24)) W = .ok 1 W:=fun W=>by kernel_rfl
 have:=run_slice_h (P:=Tryz.prog) W 24 p n D (by kernel_rfl) .i64 (j:Int) (by omega) (by omega);rw [this,H];simp [Result.andThen]
end Go.Proofs.YtjlofobnmjompaaGreatDoor.Wd
namespace Go.Proofs.YtjlofobnmjompaaGreatDoor.Kn
open Go.RowKit
variable {Y Y1 Y0 u v : Int}
/-- The dividend's next digit. -/
def dig (u v Y:Int):Int:=(u*4294967296+v) / Y
theorem r_w (D:0 < Y):dig u v Y*Y<=u*4294967296+v:=Int.ediv_mul_le _ (by omega)
theorem e_w (I:0 < Y) (D:0<=u) (H:0<=v):0<=dig u v Y:=Int.ediv_nonneg (by omega) (by omega)
theorem l_L (D:0 < Y) (H:u < Y) (I:v < 4294967296):dig u v Y < 4294967296:=by
 unfold dig;apply Int.ediv_lt_of_lt_mul D;omega
theorem h_J (D:0 < Y) (H:0 < Y1) (L:0<=Y0) (e:Y=Y1*4294967296+Y0) (M:0<=u) (O:0<=v) (I:v < 4294967296):dig u v Y<=u / Y1:=by
 rw [Int.le_ediv_iff_mul_le H];have h:=r_w (u:=u) (v:=v) D;have R:=e_w (Y:=Y) D M O;have J:0<=dig u v Y*Y0:=Int.mul_nonneg R L;rw [e,Int.mul_add,<- Int.mul_assoc] at h;rw [<- e] at h;omega
theorem o_7 (H:2147483648<=Y1) (I:Y0 < 4294967296) (e:Y=Y1*4294967296+Y0) (D:u < Y):u / Y1<=4294967297:=by
 apply Int.le_of_lt_add_one;apply Int.ediv_lt_of_lt_mul (by omega);omega
theorem g_T (q r:Int) (D:0 < Y) (H:u < Y) (I:v < 4294967296) (e:Y=Y1*4294967296+Y0) (J:q*Y1+r=u) (h:4294967296<=q∨4294967296*r+v < q*Y0):dig u v Y < q:=by
 rcases h with h|h
 ·have:=l_L D H I;omega
 ·unfold dig;apply Int.ediv_lt_of_lt_mul D;rw [e,Int.mul_add,<- Int.mul_assoc];omega
theorem g_U (q r:Int) (D:0 < Y) (e:Y=Y1*4294967296+Y0) (I:q*Y1+r=u) (h:q*Y0<=4294967296*r+v) (H:dig u v Y<=q):q=dig u v Y:=by
 apply Int.le_antisymm _ H;unfold dig;rw [Int.le_ediv_iff_mul_le D,e,Int.mul_add,<- Int.mul_assoc];omega
theorem l_M (q r:Int) (I:0 < Y) (L:0<=Y0) (H:Y0 < 4294967296) (U:0<=v) (e:Y=Y1*4294967296+Y0) (J:q*Y1+r=u) (R:4294967296<=r) (M:0<=q) (D:q<=4294967296) (O:dig u v Y<=q):q=dig u v Y:=by
 apply g_U q r I e J _ O;have:q*Y0<=4294967296*Y0:=Int.mul_le_mul_of_nonneg_right D L;omega
theorem g_V (a b:Int):IntKind.u64.wrap (IntKind.u64.wrap a - IntKind.u64.wrap b)=IntKind.u64.wrap (a - b):=by
 simp only [IntKind.wrap_u64];omega
theorem g_W (a b:Int):IntKind.u64.wrap (IntKind.u64.wrap a+b)=IntKind.u64.wrap (a+b):=by
 simp only [IntKind.wrap_u64];omega
theorem i_p (a:Int) (h:0<=a) (D:a < 18446744073709551616):IntKind.u64.wrap a=a:=by
 simp only [IntKind.wrap_u64];omega
theorem l_N (H:0 < Y) (I:Y<=18446744073709551616):
  IntKind.u64.wrap (IntKind.u64.wrap (IntKind.u64.wrap (u*4294967296)+v) - IntKind.u64.wrap (dig u v Y*Y))=(u*4294967296+v) % Y:=by
 rw [g_W,g_V];have h:=Int.emod_add_mul_ediv (u*4294967296+v) Y
 have e:u*4294967296+v - dig u v Y*Y=(u*4294967296+v) % Y:=by
  unfold dig;rw [Int.mul_comm ((u*4294967296+v) / Y) Y];omega
 rw [e];have D:=Int.emod_nonneg (u*4294967296+v) (show Y≠0 by omega);have J:=Int.emod_lt_of_pos (u*4294967296+v) H;exact i_p _ D (by omega)
theorem g_g (D:0 < Y1) (I:Y1 < 4294967296) (J:0<=u) (H:u < 18446744073709551616):
  IntKind.u64.wrap (u - IntKind.u64.wrap (u / Y1*Y1))=u % Y1:=by
 have h:=Int.emod_add_mul_ediv u Y1;have a:=Int.emod_nonneg u (show Y1≠0 by omega);have b:=Int.emod_lt_of_pos u D;rw [Int.mul_comm] at h;simp only [IntKind.wrap_u64];omega
theorem start_eq:u / Y1*Y1+u % Y1=u:=by
 have h:=Int.emod_add_mul_ediv u Y1;rw [Int.mul_comm] at h;omega
theorem o_8 (u v Y:Int):u*4294967296+v=dig u v Y*Y+(u*4294967296+v) % Y:=by
 have h:=Int.emod_add_mul_ediv (u*4294967296+v) Y;unfold dig;rw [Int.mul_comm Y] at h;omega
theorem r_x (a:Int) (h:0<=a) (I:a < 18446744073709551616):bits .and .u64 a 4294967295=a % 4294967296:=by
 have D:∀ n:Int,0<=n->n < 2 ^ 64->IntKind.u64.wrap n=n:=fun n J H=>by rw [IntKind.wrap_u64];omega
 exact bits_mask .u64 64 (by decide) D 32 (by decide) a h (by omega)
theorem n_X (y:Int) (J:0 < y) (I:y < 18446744073709551616):∃ s:Nat,s < 64/\Hid ((s:Int)=64 - (Lib.bitLen y.toNat:Int))/\9223372036854775808<=y*2 ^ s/\y*2 ^ s < 18446744073709551616:=by
 obtain ⟨n,rfl⟩:=Int.eq_ofNat_of_zero_le (show 0<=y by omega);have hb:=Lib.bitLenAux_bounds 64 n (by omega) (by omega);have H:=Lib.bitLen_le n 64 (by omega) (by omega)
 change 1<=Lib.bitLen n/\2 ^ (Lib.bitLen n - 1)<=n/\n < 2 ^ Lib.bitLen n at hb
 refine ⟨64 - Lib.bitLen n,by omega,by show _=_;simp only [Int.toNat_natCast];omega,?_,?_⟩
 ·have e:2 ^ (Lib.bitLen n - 1)*2 ^ (64 - Lib.bitLen n)=9223372036854775808:=by
   rw [<- Nat.pow_add,show Lib.bitLen n - 1+(64 - Lib.bitLen n)=63 by omega]
  have:=Nat.mul_le_mul_right (2 ^ (64 - Lib.bitLen n)) hb.2.1;rw [e] at this;have D:=Int.ofNat_le.2 this;rw [Int.natCast_mul,Int.natCast_pow] at D;exact D
 ·have e:2 ^ Lib.bitLen n*2 ^ (64 - Lib.bitLen n)=18446744073709551616:=by
   rw [<- Nat.pow_add,show Lib.bitLen n+(64 - Lib.bitLen n)=64 by omega]
  have:=Nat.mul_lt_mul_of_pos_right hb.2.2 (Nat.two_pow_pos (64 - Lib.bitLen n));rw [e] at this;have D:=Int.ofNat_lt.2 this;rw [Int.natCast_mul,Int.natCast_pow] at D;exact D
theorem p_1 (H D y:Int) (s:Nat) (hh:H < y) (h0:0 < H) (hy:0 < y) (hs:s < 64) (hY:9223372036854775808<=y*2 ^ s/\y*2 ^ s < 18446744073709551616) (R:0<=D/\D < 18446744073709551616):
  bits .or .u64 (IntKind.u64.wrap (H*2 ^ s)) (D / 2 ^ (64 - s))=H*2 ^ s+D / 2 ^ (64 - s)/\IntKind.u64.wrap (D*2 ^ s)=D*2 ^ s % 18446744073709551616/\
  0<=H*2 ^ s+D / 2 ^ (64 - s)/\H*2 ^ s+D / 2 ^ (64 - s) < y*2 ^ s/\
  (H*18446744073709551616+D)*2 ^ s=(H*2 ^ s+D / 2 ^ (64 - s))*18446744073709551616+D*2 ^ s % 18446744073709551616:=by
 have hP:(0:Int) < 2 ^ s:=Int.pow_pos (by decide);have O:(0:Int) < 2 ^ (64 - s):=Int.pow_pos (by decide)
 have J:(2:Int) ^ (64 - s)*2 ^ s=18446744073709551616:=by
  rw [<- Int.pow_add,show 64 - s+s=64 by omega];rfl
 have I:(2:Int) ^ s*2 ^ (64 - s)=18446744073709551616:=by rw [Int.mul_comm];exact J
 have U:0<=D / 2 ^ (64 - s):=Int.ediv_nonneg R.1 (by omega);have q1:D / 2 ^ (64 - s) < 2 ^ s:=Int.ediv_lt_of_lt_mul O (by rw [I];exact R.2);have hm:(H+1)*2 ^ s<=y*2 ^ s:=Int.mul_le_mul_of_nonneg_right (by omega) (by omega);rw [Int.add_mul] at hm;have L:0<=H*2 ^ s:=Int.mul_nonneg (by omega) (by omega);have hw:∀ n:Int,0<=n->n < 2 ^ 64->IntKind.u64.wrap n=n:=fun n h0 h1=>by rw [IntKind.wrap_u64];omega
 refine ⟨?_,by rw [IntKind.wrap_u64],by omega,by omega,?_⟩
 ·rw [i_p _ L (by omega)]
  have M:(2:Int) ^ s<=2 ^ 64:=by
   rw [show (2:Int) ^ 64=18446744073709551616 from rfl,<- I];have:(2:Int) ^ s*1<=2 ^ s*2 ^ (64 - s):=Int.mul_le_mul_of_nonneg_left (by omega) (by omega);omega
  exact bits_join .u64 64 (by decide) hw s _ _ L (Int.mul_emod_left _ _) (by omega) U q1 (by omega)
 ·have hd:=Int.emod_add_mul_ediv D (2 ^ (64 - s));have r0:=Int.emod_nonneg D (show (2:Int) ^ (64 - s)≠0 by omega);have r1:=Int.emod_lt_of_pos D O
  have e:D*2 ^ s=D / 2 ^ (64 - s)*18446744073709551616+D % 2 ^ (64 - s)*2 ^ s:=by
   rw [<- J];have:D*2 ^ s=(D % 2 ^ (64 - s)+2 ^ (64 - s)*(D / 2 ^ (64 - s)))*2 ^ s:=by rw [hd]
   rw [this,Int.add_mul,Int.mul_comm (2 ^ (64 - s)) (D / 2 ^ (64 - s)),Int.mul_assoc];omega
  have V:D % 2 ^ (64 - s)*2 ^ s < 2 ^ (64 - s)*2 ^ s:=Int.mul_lt_mul_of_pos_right r1 hP;have e3:0<=D % 2 ^ (64 - s)*2 ^ s:=Int.mul_nonneg r0 (by omega);rw [J] at V;rw [Int.add_mul,Int.add_mul,Int.mul_assoc H,Int.mul_comm 18446744073709551616 (2 ^ s),<- Int.mul_assoc];omega
theorem p_2 (N y P Y U L H D O I:Int) (hP:0 < P) (M:Y=y*P) (hy:0 < y) (V:0<=I) (R:I < Y)
  (hN:N*P=U*18446744073709551616+L) (e1:U*4294967296+L / 4294967296=H*Y+O) (e2:O*4294967296+L % 4294967296=D*Y+I):
  N / y=H*4294967296+D/\I / P=N % y:=by
 have hA:N*P=(H*4294967296+D)*Y+I:=by
  rw [Int.add_mul,Int.mul_assoc,Int.mul_comm 4294967296 Y,<- Int.mul_assoc];omega
 have hR:I=(N - (H*4294967296+D)*y)*P:=by
  rw [Int.sub_mul,hA,M,Int.mul_assoc];omega
 have J:I / P=N - (H*4294967296+D)*y:=by
  rw [hR];exact Int.mul_ediv_cancel _ (by omega)
 have p0:0<=N - (H*4294967296+D)*y:=by rw [<- J];exact Int.ediv_nonneg V (by omega)
 have p1:N - (H*4294967296+D)*y < y:=by
  rw [<- J];exact Int.ediv_lt_of_lt_mul hP (by rw [<- M];exact R)
 have:=(Int.ediv_emod_unique (a:=N) (b:=y) (r:=N - (H*4294967296+D)*y) (q:=H*4294967296+D) hy).2 ⟨by rw [Int.mul_comm];omega,p0,p1⟩;exact ⟨this.1,by rw [J,this.2]⟩
end Go.Proofs.YtjlofobnmjompaaGreatDoor.Kn
