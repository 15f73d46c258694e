/- A sum along a side: that side turned to the end, then cuts. · Windows, as lists of numbers: sums in any order, sums of sums as one sum, the greatest of so many and the first place where it stands. Nothing of the program is named here. · Windows, as lists of numbers: all that meet, one behind another, summed where they go. Nothing of the program is named here. · How windows go over rows: what conv's stops, goodStep, goodLength and each do. -/
import Derived.Test.YtjlofobnmjompaaGreatDoorT11
import Derived.Test.YtjlofobnmjompaaGreatDoorT06
import Derived.Test.YtjlofobnmjompaaGreatDoorT01
set_option linter.unusedVariables false
set_option linter.unusedSimpArgs false
set_option maxHeartbeats 16000000
set_option maxRecDepth 16000
namespace Go.Proofs.YtjlofobnmjompaaGreatDoor.Wd
open Go.RowKit Fx
theorem n_6:∀ n,n < 5->∀ s,s < n->k_5 (c_p n (s:Int)) n:=by decide +kernel
theorem n_7 (n:Nat) (D:Int) (h:¬ (0<=D/\D < (n:Int))):¬ k_5 (c_p n D) n:=by
 intro J;have H:=J.1
 have L:i_u n D=itl (List.range n):=by
  unfold i_u;refine List.filter_eq_self.2 fun y M=>?_;obtain ⟨k,I,rfl⟩:=List.mem_map.1 M;have:=List.mem_range.1 I;simp;omega
 unfold c_p at H;rw [L,List.length_append,a_v,List.length_range,List.length_singleton] at H;omega
theorem n_8 (n s:Nat) (I:n<=4) (H:s < n) (P:List Nat) (D:P.length+1=n) (k:Nat):unp (ntl (c_p n (s:Int))) (P++[k]) n=t_y P s k:=by
 rcases P with _|⟨a,_|⟨b,_|⟨c,_|⟨e,P⟩⟩⟩⟩
 ·simp at D;subst D;obtain rfl:s=0:=by omega
  rfl
 ·simp at D;subst D;obtain rfl|rfl:s=0∨s=1:=by omega
  ·rfl
  ·rfl
 ·simp at D;subst D;obtain rfl|rfl|rfl:s=0∨s=1∨s=2:=by omega
  ·rfl
  ·rfl
  ·rfl
 ·simp at D;subst D;obtain rfl|rfl|rfl|rfl:s=0∨s=1∨s=2∨s=3:=by omega
  ·rfl
  ·rfl
  ·rfl
  ·rfl
 ·simp at D;omega
theorem h_P (d:List Nat) (H:d.length<=4) (s:Nat) (D:s < d.length):b_7 d (ntl (c_p d.length (s:Int)))=b_j d s++[d.getD s 0]:=by
 rcases d with _|⟨a,_|⟨b,_|⟨c,_|⟨e,_|⟨f,d⟩⟩⟩⟩⟩
 ·simp at D
 ·obtain rfl:s=0:=by simp at D;omega
  rfl
 ·obtain rfl|rfl:s=0∨s=1:=by simp at D;omega
  ·rfl
  ·rfl
 ·obtain rfl|rfl|rfl:s=0∨s=1∨s=2:=by simp at D;omega
  ·rfl
  ·rfl
  ·rfl
 ·obtain rfl|rfl|rfl|rfl:s=0∨s=1∨s=2∨s=3:=by simp at D;omega
  ·rfl
  ·rfl
  ·rfl
  ·rfl
 ·simp at H
theorem h_Q (c k:Nat) (D:k < c):∀ (r:List Nat) (i:Nat),(∀ x,x∈r->1<=x)->i < a_e r->a_S (r++[c]) (i*c+k)=a_S r i++[k]
 | [],i,_,H=>by
  have H:i < 1:=H;obtain rfl:i=0:=by omega
  show [(0*c+k) / a_e []] = [k];rw [show a_e []=1 from rfl,Nat.div_one,Nat.zero_mul,Nat.zero_add]
 | x :: r,i,hp,H=>by
  have M:1<=a_e r:=a_C fun y I=>hp y (List.mem_cons_of_mem _ I);have O:=h_Q c k D r (i % a_e r) (fun y I=>hp y (List.mem_cons_of_mem _ I)) (Nat.mod_lt _ M);have e:a_e (r++[c])=a_e r*c:=by rw [a_E];simp [a_e]
  have R:0 < c:=by omega
  simp only [List.cons_append,a_S];rw [e]
  have J:(i*c+k) / (a_e r*c)=i / a_e r:=by
   rw [Nat.mul_comm (a_e r) c,<- Nat.div_div_eq_div_mul,c_N _ _ _ D]
  have L:(i*c+k) % (a_e r*c)=i % a_e r*c+k:=by
   rw [Nat.mul_comm (a_e r) c,Nat.mod_mul,d_v _ _ _ D,c_N _ _ _ D,Nat.mul_comm,Nat.add_comm]
  rw [J,L,O]
/-- Where the numbers of one sum stood. -/
theorem l_Z {d:List Nat} (H:goodN d) (s:Nat) (D:s < d.length) (i k:Nat) (I:i < a_e (b_j d s)) (J:k < d.getD s 0):
  f_i d (ntl (c_p d.length (s:Int))) (i*d.getD s 0+k)=(i / a_e (d.drop (s+1))*d.getD s 0+k)*a_e (d.drop (s+1))+i % a_e (d.drop (s+1)):=by
 have L:(a_S (b_j d s) i).length+1=d.length:=by
  rw [c_w];simp only [b_j,List.length_append,List.length_take,List.length_drop];omega
 unfold f_i;rw [h_P d H.1 s D,h_Q _ _ J _ _ (d_a H s D).2.1 I,n_8 _ _ H.1 D _ L,p_Z H s D i k I]
abbrev smP (d x:List Int) (side:Int):Prop:=isP d x/\0<=side/\side < (d.length:Int)
def smE (d x:List Int) (side:Int):Int:=if smP d x side then 0 else 1
def smD (d x:List Int) (side:Int):List Int:=if smP d x side then itl (b_j (ntl d) side.toNat) else []
def smV (d x:List Int) (side:Int):List Int:=if smP d x side then o_6 (ntl d) side.toNat x else []
theorem p_9 {d x:List Int} {D:Int} (h:¬ smP d x D):smE d x D=1/\smD d x D = []/\smV d x D = []/\h_L d x (c_p d.length D)=1/\g_Y d x (c_p d.length D) = []/\e_L d x (c_p d.length D) = []:=by
 have H:¬ f_Z d x (c_p d.length D):=fun c=>h ⟨c.1,Classical.byContradiction fun I=>n_7 _ _ I c.2⟩;exact ⟨if_neg h,if_neg h,if_neg h,if_neg H,if_neg H,if_neg H⟩
/-- What Turn hands back where there is such a side. -/
theorem q_a {a:List Nat} {x:List Int} (I:goodN a) (O:x.length=a_e a) (s:Nat) (H:s < a.length):
  h_L (itl a) x (c_p a.length (s:Int))=0/\g_Y (itl a) x (c_p a.length (s:Int))=itl (b_j a s++[a.getD s 0])/\(e_L (itl a) x (c_p a.length (s:Int))).length=a_e a/\
   ∀ i k,i < a_e (b_j a s)->k < a.getD s 0->(e_L (itl a) x (c_p a.length (s:Int))).getD (i*a.getD s 0+k) 0=x.getD ((i / a_e (a.drop (s+1))*a.getD s 0+k)*a_e (a.drop (s+1))+i % a_e (a.drop (s+1))) 0:=by
 have D:f_Z (itl a) x (c_p a.length (s:Int)):=by
  refine ⟨⟨by rw [a_o];exact I,by rw [a_o];exact O⟩,?_⟩;rw [a_v];exact n_6 _ (by have:=I.1;omega) s H
 have e:∀ o,f_Z (itl a) x o->e_L (itl a) x o=(List.range (a_e a)).map fun i=>x.getD (f_i a (ntl o) i) 0:=fun o h=>by
  unfold e_L;rw [if_pos h,a_o]
 refine ⟨if_pos D,?_,?_,fun i k M L=>?_⟩
 ·unfold g_Y;rw [if_pos D,a_o,h_P a I.1 s H]
 ·rw [e _ D];simp
 ·have J:i*a.getD s 0+k < a_e a:=by
   rw [<- d_w a s H];exact a_Y M L
  rw [e _ D,a_I _ _ _ _ J,l_Z I s H i k M L]
theorem f_z:∀ n,b_i (fun _=>0) n=0
 | 0=>rfl
 | n+1=>by rw [b_i,f_z n];rfl
theorem b_g {f:Nat->Int} (n:Nat) (h:∀ k,k < n->f k=0):b_i f n=0:=by rw [a_9 n h,f_z]
theorem j_L (f g:Nat->Int):∀ n,b_i (fun k=>f k+g k) n=b_i f n+b_i g n
 | 0=>rfl
 | n+1=>by rw [b_i,b_i,b_i,j_L f g n];omega
theorem g_j (f:Nat->Int) (n:Nat):∀ m,b_i f (n+m)=b_i f n+b_i (fun k=>f (n+k)) m
 | 0=>by simp [b_i]
 | m+1=>by rw [<- Nat.add_assoc,b_i,g_j f n m,b_i];omega
/-- Two sums, the one in the other, in either order. -/
theorem h_R (f:Nat->Nat->Int) (n:Nat):∀ m,b_i (fun i=>b_i (fun j=>f i j) n) m=b_i (fun j=>b_i (fun i=>f i j) m) n
 | 0=>by simp only [b_i];rw [f_z]
 | m+1=>by
  rw [b_i,h_R f n m,<- j_L];rfl
/-- Of a sum where one place alone counts: what stands there. -/
theorem c_Q (f:Nat->Int) (j:Nat) (n:Nat) (h:∀ k,k < n->k≠j->f k=0):b_i f n=if j < n then f j else 0:=by
 rw [<- h_I (f j) j n];refine a_9 n fun k D=>?_;by_cases e:k=j
 ·rw [if_pos e,e]
 ·rw [if_neg e,h k D e]
/-- A sum of sums of w each, as one. -/
def l_0 (f:Nat->Nat->Int) (w m:Nat):Int:=b_i (fun q=>f (q / w) (q % w)) m
theorem e_a (f:Nat->Nat->Int) (w:Nat):∀ c,l_0 f w (c*w)=b_i (fun x=>b_i (fun y=>f x y) w) c
 | 0=>by rw [Nat.zero_mul];rfl
 | c+1=>by
  rw [b_i,<- e_a f w c,Nat.add_mul,Nat.one_mul];show b_i _ (c*w+w)=b_i _ (c*w)+_;rw [g_j]
  congr 1
  refine a_9 w fun y D=>?_;rw [c_N _ _ _ D,d_v _ _ _ D]
/-- Where the greatest of v's m + 1 numbers from b on stands first. -/
def c_q (v:List Int) (b:Nat):Nat->Nat
 | 0=>b
 | m+1=>if v.getD (c_q v b m) 0 < v.getD (b+(m+1)) 0 then b+(m+1) else c_q v b m
theorem e_U (v:List Int) (b:Nat):∀ m,b<=c_q v b m/\c_q v b m<=b+m
 | 0=>⟨Nat.le_refl _,Nat.le_refl _⟩
 | m+1=>by
  have:=e_U v b m;rw [c_q]
  split <;> omega
/-- A Row's number: c rows of l, windows of c by w, at step. -/
def l_1 (c l w n step:Nat) (a k:List Int) (q:Nat):Int:=rnd (l_0 (fun x y=>a.getD (x*l+q % n*step+y) 0*k.getD ((q / n*c+x)*w+y) 0) w (c*w))
def h_S (c l w o n step:Nat) (a k:List Int):List Int:=(List.range (o*n)).map (l_1 c l w n step a k)
theorem l_2 (c l w o n D:Nat) (a k:List Int):(h_S c l w o n D a k).length=o*n:=by simp [h_S]
/-- What a gradient gives for the rows: one product, where the window's place j comes to l. -/
def bkT (c n w step:Nat) (g k:List Int) (x l i j:Nat):Int:=if j*step<=l/\l - j*step < w then g.getD (i*n+j) 0*k.getD ((i*c+x)*w+(l - j*step)) 0 else 0
def k_E (o c n w step long:Nat) (g k:List Int) (q:Nat):Int:=rnd (b_i (fun j=>b_i (fun i=>bkT c n w step g k (q / long) (q % long) i j) o) n)
def h_T (o c n w step long:Nat) (g k:List Int):List Int:=(List.range (c*long)).map (k_E o c n w step long g k)
theorem l_3 (o c n w H D:Nat) (g k:List Int):(h_T o c n w H D g k).length=c*D:=by simp [h_T]
theorem l_4 (o c n w H D:Nat) (g k:List Int) (q:Nat):k_E o c n w H D g k q=rnd (b_i (fun i=>b_i (fun j=>bkT c n w H g k (q / D) (q % D) i j) n) o):=by
 unfold k_E;rw [h_R]
/-- The same, over all numbers of the window. -/
theorem l_5 (c n w D:Nat) (g k:List Int) (x l i j:Nat):bkT c n w D g k x l i j=b_i (fun y=>if j*D+y=l then g.getD (i*n+j) 0*k.getD ((i*c+x)*w+y) 0 else 0) w:=by
 unfold bkT;by_cases I:j*D<=l
 ·rw [c_Q _ (l - j*D) w fun y J L=>by rw [if_neg (by omega)]];by_cases H:l - j*D < w
  ·rw [if_pos ⟨I,H⟩,if_pos H,if_pos (by omega)]
  ·rw [if_neg (fun c=>H c.2),if_neg H]
 ·rw [if_neg (fun c=>I c.1),b_g w fun y J=>by rw [if_neg (by omega)]]
/-- What a gradient gives for the windows. -/
def r_B (c n l wide step:Nat) (g a:List Int) (q:Nat):Int:=rnd (b_i (fun j=>g.getD (q / wide / c*n+j) 0*a.getD (q / wide % c*l+j*step+q % wide) 0) n)
def o_9 (o c n l wide step:Nat) (g a:List Int):List Int:=(List.range (o*c*wide)).map (r_B c n l wide step g a)
theorem n_9 (o c n l D H:Nat) (g a:List Int):(o_9 o c n l D H g a).length=o*c*D:=by simp [o_9]
/-- The greatest of each wide numbers: where they stand, and they. -/
def f_0 (l n wide:Nat) (v:List Int) (q:Nat):Nat:=c_q v (q / n*l+q % n*wide) (wide - 1)
def e_y (c l n wide:Nat) (v:List Int):List Int:=(List.range (c*n)).map fun q=>((f_0 l n wide v q:Nat):Int)
def h_U (c l n wide:Nat) (v:List Int):List Int:=(List.range (c*n)).map fun q=>v.getD (f_0 l n wide v q) 0
theorem l_6 (c l n D:Nat) (v:List Int):(e_y c l n D v).length=c*n:=by simp [e_y]
theorem h_V (c l n D:Nat) (v:List Int):(h_U c l n D v).length=c*n:=by simp [h_U]
theorem i_w {c l n D q:Nat} (v:List Int) (O:q < c*n) (U:1<=D) (hn:n*D<=l):q / n*l+q % n*D+D<=c*l/\f_0 l n D v q < c*l:=by
 have H:q < n*c:=by rw [Nat.mul_comm];exact O
 have I:=d_9 H;have J:q / n < c:=d_8 H;have L:q % n < n:=Nat.mod_lt _ I;have R:(q % n+1)*D<=n*D:=Nat.mul_le_mul_right _ L;have M:(q / n+1)*l<=c*l:=Nat.mul_le_mul_right _ J;rw [Nat.add_mul,Nat.one_mul] at R M;have V:=(e_U v (q / n*l+q % n*D) (D - 1)).2;unfold f_0;omega
/-- How many stops. -/
def a_L (L wd st:Nat):Nat:=(L - wd) / st+1
/-- A sum of sums of sums of sums, as one. -/
def b_V (f:Nat->Nat->Nat->Nat->Int) (R S w q:Nat):Int:=b_i (fun t=>f (t / w / S / R) (t / w / S % R) (t / w % S) (t % w)) q
theorem e_z (f:Nat->Nat->Nat->Nat->Int) {R S w o c n y:Nat} (I:c < R) (H:n < S) (D:y < w):b_V f R S w (((o*R+c)*S+n)*w+(y+1))=b_V f R S w (((o*R+c)*S+n)*w+y)+f o c n y:=by
 show b_i _ (((o*R+c)*S+n)*w+y+1)=_;rw [b_i,c_N _ _ _ D,d_v _ _ _ D,c_N _ _ _ H,d_v _ _ _ H,c_N _ _ _ I,d_v _ _ _ I];rfl
theorem f_A (f:Nat->Nat->Nat->Nat->Int) (O R S w:Nat):b_V f R S w (O*R*S*w)=b_i (fun o=>b_i (fun c=>b_i (fun n=>b_i (fun y=>f o c n y) w) S) R) O:=by
 have D:b_V f R S w (O*R*S*w)=l_0 (fun a y=>f (a / S / R) (a / S % R) (a % S) y) w (O*R*S*w):=rfl;have H:b_i (fun a=>b_i (fun y=>f (a / S / R) (a / S % R) (a % S) y) w) (O*R*S)=l_0 (fun b n=>b_i (fun y=>f (b / R) (b % R) n y) w) S (O*R*S):=rfl;have I:b_i (fun b=>b_i (fun n=>b_i (fun y=>f (b / R) (b % R) n y) w) S) (O*R)=l_0 (fun o c=>b_i (fun n=>b_i (fun y=>f o c n y) w) S) R (O*R):=rfl;rw [D,e_a,H,e_a,I,e_a]
theorem f_B {o S n i:Nat} (D:n < S) (h:o*S+n=i):o=i / S/\n=i % S:=by
 subst h;exact ⟨(c_N _ _ _ D).symm,(d_v _ _ _ D).symm⟩
theorem e_b (i S:Nat):i / S*S+i % S=i:=by rw [Nat.mul_comm];exact Nat.div_add_mod i S
/-- What meets at a number of Row. -/
def n_j (L R S w st:Nat) (a k:List Int) (i o c n y:Nat):Int:=if o*S+n=i then a.getD (c*L+n*st+y) 0*k.getD ((o*R+c)*w+y) 0 else 0
theorem l_7 {L O R S w st i:Nat} (a k:List Int) (U:i < O*S):rnd (b_V (n_j L R S w st a k i) R S w (O*R*S*w))=l_1 R L w S st a k i:=by
 have H:i < S*O:=by rw [Nat.mul_comm];exact U
 have V:=d_9 H;rw [f_A,c_Q _ (i / S) O fun o ho D=>?_,if_pos (d_8 H)]
 ·unfold l_1
  congr 1
  rw [e_a];refine a_9 R fun c M=>?_;rw [c_Q _ (i % S) S fun n I D=>?_,if_pos (Nat.mod_lt _ V)]
  ·refine a_9 w fun y J=>?_;unfold n_j;rw [if_pos (e_b i S)]
  ·refine b_g w fun y J=>?_;unfold n_j;rw [if_neg fun h=>D (f_B I h).2]
 ·refine b_g R fun c M=>b_g S fun n I=>b_g w fun y J=>?_;unfold n_j;rw [if_neg fun h=>D (f_B I h).1]
/-- What meets at a number of BackIn. -/
def inT (L R S w st:Nat) (g k:List Int) (i o c n y:Nat):Int:=if c*L+n*st+y=i then g.getD (o*S+n) 0*k.getD ((o*R+c)*w+y) 0 else 0
theorem o_a {L O R S w st i:Nat} (g k:List Int) (U:i < R*L) (J:∀ n,n < S->n*st+w<=L):rnd (b_V (inT L R S w st g k i) R S w (O*R*S*w))=k_E O R S w st L g k i:=by
 have D:i < L*R:=by rw [Nat.mul_comm];exact U
 have V:=d_9 D;rw [f_A,l_4]
 congr 1
 refine a_9 O fun o ho=>?_;rw [c_Q _ (i / L) R fun c hc H=>?_,if_pos (d_8 D)]
 ·refine a_9 S fun n I=>?_;rw [l_5];refine a_9 w fun y hy=>?_;unfold inT;have hb:=e_b i L;have M:=J n I;by_cases h:n*st+y=i % L
  ·rw [if_pos (by omega),if_pos h]
  ·rw [if_neg (by omega),if_neg h]
 ·refine b_g S fun n I=>b_g w fun y hy=>?_;unfold inT;have M:=J n I;rw [if_neg fun h=>H (f_B (n:=n*st+y) (by omega) (by rw [<- Nat.add_assoc];exact h)).1]
/-- What meets at a number of BackKernel. -/
def l_8 (L R S w st:Nat) (g a:List Int) (i o c n y:Nat):Int:=if (o*R+c)*w+y=i then g.getD (o*S+n) 0*a.getD (c*L+n*st+y) 0 else 0
theorem l_9 {L O R S w st i:Nat} (g a:List Int) (hi:i < O*R*w):rnd (b_V (l_8 L R S w st g a i) R S w (O*R*S*w))=r_B R S L w st g a i:=by
 have J:i < w*(O*R):=by rw [Nat.mul_comm];exact hi
 have hw:=d_9 J;have hq:i / w < R*O:=by rw [Nat.mul_comm R O];exact d_8 J
 have hR:=d_9 hq
 have I:∀ o c y,c < R->y < w->(o*R+c)*w+y=i->o=i / w / R/\c=i / w % R/\y=i % w:=by
  intro o c y M H h;have U:=f_B H h;have V:=f_B M U.1;exact ⟨V.1,V.2,U.2⟩
 rw [f_A,c_Q _ (i / w / R) O fun o ho D=>?_,if_pos (d_8 hq)]
 ·rw [c_Q _ (i / w % R) R fun c M D=>?_,if_pos (Nat.mod_lt _ hR)]
  ·unfold r_B
   congr 1
   refine a_9 S fun n hn=>?_;rw [c_Q _ (i % w) w fun y H D=>?_,if_pos (Nat.mod_lt _ hw)]
   ·unfold l_8;rw [if_pos (by rw [e_b,e_b])]
   ·unfold l_8;rw [if_neg fun h=>D (I _ _ _ (Nat.mod_lt _ hR) H h).2.2]
  ·refine b_g S fun n hn=>b_g w fun y H=>?_;unfold l_8;rw [if_neg fun h=>D (I _ _ _ M H h).2.1]
 ·refine b_g R fun c M=>b_g S fun n hn=>b_g w fun y H=>?_;unfold l_8;rw [if_neg fun h=>D (I _ _ _ M H h).1]
theorem e_c (R L O wd st:Nat) (h1:wd<=L) (h2:L<=4096) (h3:1<=st) (h4:st<=64) (w:World):
  Calls Tryz.prog 139 #[.agg #[.int .i64 (R:Int),.int .i64 (L:Int),.int .i64 (O:Int),.int .i64 (wd:Int),.int .i64 (st:Int)]] w fun e w'=>e = .returned (.int .i64 (a_L L wd st:Nat))/\Below w.heap.size w w':=by
 obtain ⟨D,J⟩:∃ D,L - wd=D:=⟨_,rfl⟩
 have ab:(L:Int) - (wd:Int)=(D:Int):=by omega
 obtain ⟨q,H⟩:∃ q,D / st=q:=⟨_,rfl⟩
 have M:(D:Int) / (st:Int)=(q:Int):=by rw [<- H];rfl
 have hq:q<=D:=by rw [<- H];exact Nat.div_le_self _ _
 have ad:(q:Int)<=4096:=by omega
 have aa:(D:Int)<=4096:=by omega
 have ac:(L:Int)<=4096:=by omega
 have V:(wd:Int)<=4096:=by omega
 have U:1<=(st:Int)/\(st:Int)<=64:=by omega
 have I:((a_L L wd st:Nat):Int)=(q:Int)+1:=by unfold a_L;rw [J,H];rfl
 rw [I];clear I J H;go_enter Tryz.func139,Tryz.ntmps139;go_wp2;go_ret;exact ⟨rfl,by go_grown⟩
theorem d_c (st:Int) (w:World):
  Calls Tryz.prog 137 #[.int .i64 st] w fun e I=>e = .returned (.bool (decide (1<=st/\st<=64)))/\Below w.heap.size w I:=by
 by_cases D:1<=st
 ·by_cases H:st<=64
  ·rw [decide_eq_true ⟨D,H⟩];go_enter Tryz.func137,Tryz.ntmps137;go_wp2;go_ret;exact ⟨rfl,by go_grown⟩
  ·rw [decide_eq_false fun h=>H h.2];go_enter Tryz.func137,Tryz.ntmps137;go_wp2;go_ret;exact ⟨rfl,by go_grown⟩
 ·rw [decide_eq_false fun h=>D h.1];go_enter Tryz.func137,Tryz.ntmps137;go_wp2;go_ret;exact ⟨rfl,by go_grown⟩
theorem d_I (n:Int) (w:World):
  Calls Tryz.prog 138 #[.int .i64 n] w fun e I=>e = .returned (.bool (decide (1<=n/\n<=4096)))/\Below w.heap.size w I:=by
 by_cases D:1<=n
 ·by_cases H:n<=4096
  ·rw [decide_eq_true ⟨D,H⟩];go_enter Tryz.func138,Tryz.ntmps138;go_wp2;go_ret;exact ⟨rfl,by go_grown⟩
  ·rw [decide_eq_false fun h=>H h.2];go_enter Tryz.func138,Tryz.ntmps138;go_wp2;go_ret;exact ⟨rfl,by go_grown⟩
 ·rw [decide_eq_false fun h=>D h.1];go_enter Tryz.func138,Tryz.ntmps138;go_wp2;go_ret;exact ⟨rfl,by go_grown⟩
/-- A slide's numbers, in a block. -/
def SlC (W:World) (b R L O wd st:Nat):Prop:=
 W.cell? ⟨b,0,none⟩=some (.int .i64 (R:Int))/\W.cell? ⟨b,1,none⟩=some (.int .i64 (L:Int))/\W.cell? ⟨b,2,none⟩=some (.int .i64 (O:Int))/\W.cell? ⟨b,3,none⟩=some (.int .i64 (wd:Int))/\W.cell? ⟨b,4,none⟩=some (.int .i64 (st:Int))
theorem SlC.up {W W':World} {b R L O wd st:Nat} (h:SlC W b R L O wd st) (D:Below W.heap.size W W'):SlC W' b R L O wd st:=
 ⟨a_d h.1 D,a_d h.2.1 D,a_d h.2.2.1 D,a_d h.2.2.2.1 D,a_d h.2.2.2.2 D⟩
theorem SlC.stay {W W':World} {g b R L O wd st:Nat} (h:SlC W b R L O wd st) (D:Stay g W W') (H:b≠g):SlC W' b R L O wd st:=
 ⟨D.cell h.1 H,D.cell h.2.1 H,D.cell h.2.2.1 H,D.cell h.2.2.2.1 H,D.cell h.2.2.2.2 H⟩
theorem f_C (K:FuncId) (aE:∀ args W,(callFunc K args).run Tryz.prog W = .ok (.enter K args) W) (u0 u1 u2:Value) (b R L O wd st S:Nat) (hS:a_L L wd st=S) (h1:wd<=L) (h2:L<=4096) (h3:1<=st) (h4:st<=64) (h5:O*R*wd<=4096) (h6:O*S<=4096) (h7:R*L<=4096) (h8:O<=4096) (h9:R<=4096)
  (I:Nat->World->Prop) (hI:∀ q W W',I q W->Below W.heap.size W W'->I q W')
  (hK:∀ o c n y,o < O->c < R->n < S->y < wd->∀ W,I (((o*R+c)*S+n)*wd+y) W->Calls Tryz.prog K #[.int .i64 ((c*L+n*st+y:Nat):Int),.int .i64 (((o*R+c)*wd+y:Nat):Int),.int .i64 ((o*S+n:Nat):Int),u0,u1,u2] W fun e H=>e = .returned (.tuple #[])/\I (((o*R+c)*S+n)*wd+(y+1)) H/\Stay b W H/\Below b W H)
  (w:World) (hb:b < w.heap.size) (h0:I 0 w):
  Calls Tryz.prog 142 #[.agg #[.int .i64 (R:Int),.int .i64 (L:Int),.int .i64 (O:Int),.int .i64 (wd:Int),.int .i64 (st:Int)],.func (.func K) #[] #[u0,u1,u2]] w fun e H=>e = .returned (.tuple #[])/\I (O*R*S*wd) H/\Stay b w H/\Below b w H:=by
 have cS:∀ W:World,Calls Tryz.prog 139 #[.agg #[.int .i64 (R:Int),.int .i64 (L:Int),.int .i64 (O:Int),.int .i64 (wd:Int),.int .i64 (st:Int)]] W fun e H=>e = .returned (.int .i64 (S:Int))/\Below W.heap.size W H:=fun W=>by rw [<- hS];exact e_c R L O wd st h1 h2 h3 h4 W
 have HI:Hid (∀ q W W',I q W->Below W.heap.size W W'->I q W'):=hI;have HK:Hid (∀ o c n y,o < O->c < R->n < S->y < wd->∀ W,I (((o*R+c)*S+n)*wd+y) W->Calls Tryz.prog K #[.int .i64 ((c*L+n*st+y:Nat):Int),.int .i64 (((o*R+c)*wd+y:Nat):Int),.int .i64 ((o*S+n:Nat):Int),u0,u1,u2] W fun e H=>e = .returned (.tuple #[])/\I (((o*R+c)*S+n)*wd+(y+1)) H/\Stay b W H/\Below b W H):=hK;have H0:Hid (I 0 w):=h0
 have HR:Hid ((∀ n,n < S->n*st+wd<=L)/\O*R*wd<=4096/\O*S<=4096/\R*L<=4096):=⟨fun n hn=>by
  unfold a_L at hS;have:n<=(L - wd) / st:=by omega
  have:=(Nat.le_div_iff_mul_le (by omega)).1 this;omega,h5,h6,h7⟩
 have aJ:S<=4097:=by rw [<- hS];unfold a_L;have:=Nat.div_le_self (L - wd) st;omega
 have ax:(wd:Int)<=4096/\(L:Int)<=4096/\1<=(st:Int)/\(st:Int)<=64/\(O:Int)<=4096/\(R:Int)<=4096/\(S:Int)<=4097:=by omega
 obtain ⟨aQ,aM,aZ,aS,aR,aN,aY⟩:=ax;clear hI hK h0 h5 h6 h7 hS h1 h2 h3 h4;haveI:Nonempty World:=⟨w⟩
 go_enter Tryz.func142,Tryz.ntmps142;go_wp2_with fail
 generalize ab:World.alloc _ _=W0;have aj:Below w.heap.size w W0:=by rw [<- ab];exact a_b w _
 have X0:SlC W0 w.heap.size R L O wd st:=by unfold SlC;rw [<- ab];simp [go_sem]
 clear ab;refine (cS W0).mono ?_;rintro e D ⟨rfl,ad⟩;have hB:Below w.heap.size w D:=a_c aj ad;have HX:Hid (SlC D w.heap.size R L O wd st/\b < w.heap.size):=⟨X0.up ad,hb⟩
 have H1:Hid (I (0*R*S*wd) D/\Stay b w D/\Below b w D):=⟨by rw [Nat.zero_mul,Nat.zero_mul,Nat.zero_mul];exact HI.out _ _ _ H0.out hB,Stay.of hB,hB.mono (Nat.le_of_lt hb)⟩
 clear aj X0 ad hB cS hb H0;obtain ⟨z0,z1,z2,z3,z4⟩:=HX.out.1;have zl:=a_a z0;obtain ⟨G,eG⟩:∃ G,w.heap.size=G:=⟨_,rfl⟩
 rw [eG] at z0 z1 z2 z3 z4 HX ⊢;clear eG;go_wp2_with fail
 clear z0 z1 z2 z3 z4 zl
 go_loopg [15] O (fun gg i wr=>∃ (o:Nat),o<=O/\gg=O - o/\i = .int .i64 (o:Int)/\Hid (I (o*R*S*wd) wr/\Stay b w wr/\Below b w wr/\Stay b D wr))
 case atStart=>exact ⟨0,by omega,by omega,by first|rfl|simp,H1.out.1,H1.out.2.1,H1.out.2.2,Stay.refl _ _⟩
 case round=>
  obtain ⟨o,ho,aW,rfl,Ho⟩:=hrel;obtain ⟨R1,aA⟩:∃ R1:World,R1=wr:=⟨_,rfl⟩
  subst aA;by_cases M:o < O
  ·have aV:(o:Int) < (O:Int):=by omega
   obtain ⟨z0,z1,z2,z3,z4⟩:=HX.out.1.stay Ho.out.2.2.2 (by have:=HX.out.2;omega);have zl:=a_a z0;go_wp2_with fail
   clear z0 z1 z2 z3 z4 zl;rw [show o*R*S=(o*R+0)*S from rfl] at Ho
   go_loopg [20] R (fun gg i wr=>∃ (c:Nat),c<=R/\gg=R - c/\i = .int .i64 (c:Int)/\Hid (I ((o*R+c)*S*wd) wr/\Stay b w wr/\Below b w wr/\Stay b D wr))
   case atStart=>exact ⟨0,by omega,by omega,by first|rfl|simp,Ho⟩
   case round=>
    obtain ⟨c,hc,aT,rfl,Hc⟩:=hrel;obtain ⟨R2,av⟩:∃ R2:World,R2=wr:=⟨_,rfl⟩
    subst av;by_cases U:c < R
    ·have aX:(c:Int) < (R:Int):=by omega
     go_wp2_with fail
     rw [show (o*R+c)*S=(o*R+c)*S+0 from rfl] at Hc
     go_loopg [24] S (fun gg i wr=>∃ (n:Nat),n<=S/\gg=S - n/\i = .int .i64 (n:Int)/\Hid (I (((o*R+c)*S+n)*wd) wr/\Stay b w wr/\Below b w wr/\Stay b D wr))
     case atStart=>exact ⟨0,by omega,by omega,by first|rfl|simp,Hc⟩
     case round=>
      obtain ⟨n,hn,aI,rfl,Hn⟩:=hrel;obtain ⟨R3,aw⟩:∃ R3:World,R3=wr:=⟨_,rfl⟩
      subst aw;by_cases ac:n < S
      ·have aU:(n:Int) < (S:Int):=by omega
       obtain ⟨z0,z1,z2,z3,z4⟩:=HX.out.1.stay Hn.out.2.2.2 (by have:=HX.out.2;omega);have zl:=a_a z0;have b1:=HR.out.1 n ac;have b2:(c+1)*L<=R*L:=Nat.mul_le_mul_right L U;have b3:(o*R+c+1)*wd<=O*R*wd:=Nat.mul_le_mul_right wd (a_Y M U);have b4:o*S+n < O*S:=a_Y M ac;have b5:=HR.out.2;rw [Nat.add_mul,Nat.one_mul] at b2 b3;have b6:=a_Y M U;have b7:o*R<=O*R:=Nat.mul_le_mul_right R (Nat.le_of_lt M);have b8:O*R<=16777216:=Nat.mul_le_mul h8 h9;obtain ⟨A,eA⟩:∃ A,c*L=A:=⟨_,rfl⟩
       obtain ⟨B,eB⟩:∃ B,n*st=B:=⟨_,rfl⟩
       obtain ⟨C,eC⟩:∃ C,o*R=C:=⟨_,rfl⟩
       obtain ⟨OR,ah⟩:∃ C,O*R=C:=⟨_,rfl⟩
       obtain ⟨RL,ae⟩:∃ C,R*L=C:=⟨_,rfl⟩
       have aB:(c:Int)*(L:Int)=(A:Int):=by rw [<- eA];push_cast;rfl
       have az:(n:Int)*(st:Int)=(B:Int):=by rw [<- eB];push_cast;rfl
       have aC:(o:Int)*(R:Int)=(C:Int):=by rw [<- eC];push_cast;rfl
       rw [eC] at b3 b6 b7;rw [eA,ae] at b2;rw [eB] at b1;rw [ah] at b6 b7 b8;rw [ae] at b5;obtain ⟨E,eE⟩:∃ E,C+c=E:=⟨_,rfl⟩
       have ar:(C:Int)+(c:Int)=(E:Int):=by omega
       obtain ⟨AB,ak⟩:∃ E,A+B=E:=⟨_,rfl⟩
       have ao:(A:Int)+(B:Int)=(AB:Int):=by omega
       rw [eE] at b3 b6;obtain ⟨KB,aa⟩:∃ E',E*wd=E':=⟨_,rfl⟩
       have aq:(E:Int)*(wd:Int)=(KB:Int):=by rw [<- aa];push_cast;rfl
       rw [aa] at b3;obtain ⟨OS,V⟩:∃ E',o*S=E':=⟨_,rfl⟩
       have aD:(o:Int)*(S:Int)=(OS:Int):=by rw [<- V];push_cast;rfl
       obtain ⟨Q,eQ⟩:∃ E',OS+n=E':=⟨_,rfl⟩
       have aK:(OS:Int)+(n:Int)=(Q:Int):=by omega
       rw [V,eQ] at b4;have HE:Hid (c*L+n*st=AB/\(o*R+c)*wd=KB/\o*S+n=Q):=⟨by rw [eA,eB,ak],by rw [eC,eE,aa],by rw [V,eQ]⟩
       have aL:(A:Int)<=10000/\(B:Int)<=10000/\(C:Int)<=16777216/\(E:Int)<=16777217:=by omega
       have aO:(AB:Int)+(wd:Int)<=20000/\(KB:Int)+(wd:Int)<=20000/\(Q:Int)<=20000/\(OS:Int)<=20000:=by omega
       clear eA eB eC ah ae eE ak aa V eQ b1 b2 b3 b4 b5 b6 b7 b8;go_wp2_with fail
       go_quiet (fail)
       generalize an:World.drewN R3 nq=w5;have J:Below R3.heap.size R3 w5:=by rw [<- an];exact a_l (Below.refl _ _) nq
       have ag:Hid (I (((o*R+c)*S+n)*wd) w5/\Stay b w w5/\Below b w w5/\Stay b D w5):=⟨HI.out _ _ _ Hn.out.1 J,Hn.out.2.1.up J,Hn.out.2.2.1.trans (J.mono (by have h:=HX.out.2;have h2:=a_a z0;omega)),Hn.out.2.2.2.up J⟩
       clear an J z0 z1 z2 z3 z4 zl;obtain ⟨z0,z1,z2,z3,z4⟩:=HX.out.1.stay ag.out.2.2.2 (by have:=HX.out.2;omega);have zl:=a_a z0;go_wp2_with fail
       clear z0 z1 z2 z3 z4 zl aB az aC ar ao aq;rw [show ((o*R+c)*S+n)*wd=((o*R+c)*S+n)*wd+0 from rfl] at ag
       go_loopg [47] wd (fun gg i wr=>∃ (y:Nat),y<=wd/\gg=wd - y/\i = .int .i64 (y:Int)/\Hid (I (((o*R+c)*S+n)*wd+y) wr/\Stay b w wr/\Below b w wr/\Stay b D wr))
       case atStart=>exact ⟨0,by omega,by omega,by first|rfl|simp,ag⟩
       case round=>
        obtain ⟨y,hy,aP,rfl,Hy⟩:=hrel;obtain ⟨R4,ay⟩:∃ R4:World,R4=wr:=⟨_,rfl⟩
        subst ay;by_cases au:y < wd
        ·have aH:(y:Int) < (wd:Int):=by omega
         have cK:=HK.out o c n y M U ac au R4 Hy.out.1;obtain ⟨P1,ai⟩:∃ P,c*L+n*st+y=P:=⟨_,rfl⟩
         obtain ⟨P2,am⟩:∃ P,(o*R+c)*wd+y=P:=⟨_,rfl⟩
         rw [ai,am,HE.out.2.2] at cK;have aF:(AB:Int)+(y:Int)=(P1:Int):=by have:=HE.out.1;omega
         have aG:(KB:Int)+(y:Int)=(P2:Int):=by have:=HE.out.2.1;omega
         have bP:(P1:Int)<=40000/\(P2:Int)<=40000:=by omega
         clear ai am;go_wp2_with fail
         refine cK.mono ?_;rintro e w4 ⟨rfl,hJ,af,ap⟩;have Hz:Hid (I (((o*R+c)*S+n)*wd+(y+1)) w4/\Stay b w w4/\Below b w w4/\Stay b D w4):=⟨hJ,Hy.out.2.1.trans af,Hy.out.2.2.1.trans ap,Hy.out.2.2.2.trans af⟩
         clear hJ af ap cK;go_wp2;go_roundg (wd - (y+1))
         case measure=>omega
         case rel=>exact ⟨y+1,by omega,rfl,by first|rfl|simp,Hz⟩
        ·obtain rfl:y=wd:=by omega
         have Hz:Hid (I (((o*R+c)*S+(n+1))*y) R4/\Stay b w R4/\Below b w R4/\Stay b D R4):=⟨by rw [<- Nat.add_assoc,Nat.add_mul _ 1,Nat.one_mul];exact Hy.out.1,Hy.out.2⟩
         go_wp2;go_roundg (S - (n+1))
         case measure=>omega
         case rel=>exact ⟨n+1,by omega,rfl,by first|rfl|simp,Hz⟩
      ·obtain rfl:n=S:=by omega
       have Hz:Hid (I ((o*R+(c+1))*n*wd) R3/\Stay b w R3/\Below b w R3/\Stay b D R3):=⟨by rw [<- Nat.add_assoc,Nat.add_mul _ 1,Nat.one_mul];exact Hn.out.1,Hn.out.2⟩
       go_wp2;go_roundg (R - (c+1))
       case measure=>omega
       case rel=>exact ⟨c+1,by omega,rfl,by first|rfl|simp,Hz⟩
    ·obtain rfl:c=R:=by omega
     have Hz:Hid (I ((o+1)*c*S*wd) R2/\Stay b w R2/\Below b w R2/\Stay b D R2):=⟨by rw [Nat.add_mul,Nat.one_mul];exact Hc.out.1,Hc.out.2⟩
     go_wp2;go_roundg (O - (o+1))
     case measure=>omega
     case rel=>exact ⟨o+1,by omega,rfl,by first|rfl|simp,Hz⟩
  ·obtain rfl:o=O:=by omega
   go_wp2
   go_end0
   exact ⟨rfl,Ho.out.1,Ho.out.2.1,Ho.out.2.2.1⟩
end Go.Proofs.YtjlofobnmjompaaGreatDoor.Wd
