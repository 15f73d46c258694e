/- A sum along a side: that side turned to  -/
import Derived.Test.YtcpbhhlepdgdkaaGreatDoorT08
set_option linter.unusedVariables false
set_option linter.unusedSimpArgs false
set_option maxHeartbeats 16000000
set_option maxRecDepth 16000
namespace Go.Proofs.YtcpbhhlepdgdkaaGreatDoor.Wd
open Go.RowKit Fx
theorem o_o:∀ n,n < 5->∀ s,s < n->l_f (c_s n (s:Int)) n:=by decide +kernel
theorem o_p (n:Nat) (D:Int) (h:¬ (0<=D/\D < (n:Int))):¬ l_f (c_s n D) n:=by
 intro H;have E:=H.1
 have I:i_I n D=itl (List.range n):=by
  unfold i_I;refine List.filter_eq_self.2 fun y J=>?_;obtain ⟨k,L,rfl⟩:=List.mem_map.1 J;have:=List.mem_range.1 L;simp;omega
 unfold c_s at E;rw [I,List.length_append,a_v,List.length_range,List.length_singleton] at E;omega
theorem o_q (n s:Nat) (H:n<=4) (E:s < n) (P:List Nat) (D:P.length+1=n) (k:Nat):unp (ntl (c_s n (s:Int))) (P++[k]) n=t_L P s k:=by
 rcases P with _|⟨a,_|⟨b,_|⟨c,_|⟨e,P⟩⟩⟩⟩
 ·simp at D;subst D;obtain rfl:s=0:=by omega
  rfl
 ·simp at D;subst D;obtain rfl|rfl:s=0∨s=1:=by omega
  ·rfl
  ·rfl
 ·simp at D;subst D;obtain rfl|rfl|rfl:s=0∨s=1∨s=2:=by omega
  ·rfl
  ·rfl
  ·rfl
 ·simp at D;subst D;obtain rfl|rfl|rfl|rfl:s=0∨s=1∨s=2∨s=3:=by omega
  ·rfl
  ·rfl
  ·rfl
  ·rfl
 ·simp at D;omega
theorem h_3 (d:List Nat) (E:d.length<=4) (s:Nat) (D:s < d.length):c_d d (ntl (c_s d.length (s:Int)))=b_m d s++[d.getD s 0]:=by
 rcases d with _|⟨a,_|⟨b,_|⟨c,_|⟨e,_|⟨f,d⟩⟩⟩⟩⟩
 ·simp at D
 ·obtain rfl:s=0:=by simp at D;omega
  rfl
 ·obtain rfl|rfl:s=0∨s=1:=by simp at D;omega
  ·rfl
  ·rfl
 ·obtain rfl|rfl|rfl:s=0∨s=1∨s=2:=by simp at D;omega
  ·rfl
  ·rfl
  ·rfl
 ·obtain rfl|rfl|rfl|rfl:s=0∨s=1∨s=2∨s=3:=by simp at D;omega
  ·rfl
  ·rfl
  ·rfl
  ·rfl
 ·simp at E
theorem h_4 (c k:Nat) (D:k < c):∀ (r:List Nat) (i:Nat),(∀ x,x∈r->1<=x)->i < a_e r->a_S (r++[c]) (i*c+k)=a_S r i++[k]
 | [],i,_,E=>by
  have E:i < 1:=E;obtain rfl:i=0:=by omega
  show [(0*c+k) / a_e []] = [k];rw [show a_e []=1 from rfl,Nat.div_one,Nat.zero_mul,Nat.zero_add]
 | x :: r,i,hp,E=>by
  have I:1<=a_e r:=a_A fun y H=>hp y (List.mem_cons_of_mem _ H);have L:=h_4 c k D r (i % a_e r) (fun y H=>hp y (List.mem_cons_of_mem _ H)) (Nat.mod_lt _ I);have e:a_e (r++[c])=a_e r*c:=by rw [a_D];simp [a_e]
  have O:0 < c:=by omega
  simp only [List.cons_append,a_S];rw [e]
  have J:(i*c+k) / (a_e r*c)=i / a_e r:=by
   rw [Nat.mul_comm (a_e r) c,<- Nat.div_div_eq_div_mul,c_O _ _ _ D]
  have M:(i*c+k) % (a_e r*c)=i % a_e r*c+k:=by
   rw [Nat.mul_comm (a_e r) c,Nat.mod_mul,d_z _ _ _ D,c_O _ _ _ D,Nat.mul_comm,Nat.add_comm]
  rw [J,M,L]
/-- Where the numbers of one sum stood. -/
theorem m_b {d:List Nat} (D:goodN d) (s:Nat) (E:s < d.length) (i k:Nat) (H:i < a_e (b_m d s)) (J:k < d.getD s 0):
  f_m d (ntl (c_s d.length (s:Int))) (i*d.getD s 0+k)=(i / a_e (d.drop (s+1))*d.getD s 0+k)*a_e (d.drop (s+1))+i % a_e (d.drop (s+1)):=by
 have I:(a_S (b_m d s) i).length+1=d.length:=by
  rw [c_z];simp only [b_m,List.length_append,List.length_take,List.length_drop];omega
 unfold f_m;rw [h_3 d D.1 s E,h_4 _ _ J _ _ (d_e D s E).2.1 H,o_q _ _ D.1 E _ I,q_k D s E i k H]
abbrev smP (d x:List Int) (side:Int):Prop:=isP d x/\0<=side/\side < (d.length:Int)
def smE (d x:List Int) (side:Int):Int:=if smP d x side then 0 else 1
def smD (d x:List Int) (side:Int):List Int:=if smP d x side then itl (b_m (ntl d) side.toNat) else []
def smV (d x:List Int) (side:Int):List Int:=if smP d x side then p_l (ntl d) side.toNat x else []
theorem q_t {d x:List Int} {D:Int} (h:¬ smP d x D):smE d x D=1/\smD d x D = []/\smV d x D = []/\h_Z d x (c_s d.length D)=1/\g_4 d x (c_s d.length D) = []/\e_P d x (c_s d.length D) = []:=by
 have E:¬ f_5 d x (c_s d.length D):=fun c=>h ⟨c.1,Classical.byContradiction fun H=>o_p _ _ H c.2⟩;exact ⟨if_neg h,if_neg h,if_neg h,if_neg E,if_neg E,if_neg E⟩
/-- What Turn hands back where there is such a side. -/
theorem q_u {a:List Nat} {x:List Int} (D:goodN a) (M:x.length=a_e a) (s:Nat) (H:s < a.length):
  h_Z (itl a) x (c_s a.length (s:Int))=0/\g_4 (itl a) x (c_s a.length (s:Int))=itl (b_m a s++[a.getD s 0])/\(e_P (itl a) x (c_s a.length (s:Int))).length=a_e a/\
   ∀ i k,i < a_e (b_m a s)->k < a.getD s 0->(e_P (itl a) x (c_s a.length (s:Int))).getD (i*a.getD s 0+k) 0=x.getD ((i / a_e (a.drop (s+1))*a.getD s 0+k)*a_e (a.drop (s+1))+i % a_e (a.drop (s+1))) 0:=by
 have E:f_5 (itl a) x (c_s a.length (s:Int)):=by
  refine ⟨⟨by rw [a_p];exact D,by rw [a_p];exact M⟩,?_⟩;rw [a_v];exact o_o _ (by have:=D.1;omega) s H
 have e:∀ o,f_5 (itl a) x o->e_P (itl a) x o=(List.range (a_e a)).map fun i=>x.getD (f_m a (ntl o) i) 0:=fun o h=>by
  unfold e_P;rw [if_pos h,a_p]
 refine ⟨if_pos E,?_,?_,fun i k J L=>?_⟩
 ·unfold g_4;rw [if_pos E,a_p,h_3 a D.1 s H]
 ·rw [e _ E];simp
 ·have I:i*a.getD s 0+k < a_e a:=by
   rw [<- d_A a s H];exact a_0 J L
  rw [e _ E,a_J _ _ _ _ I,m_b D s H i k J L]
theorem f_D:∀ n,b_k (fun _=>0) n=0
 | 0=>rfl
 | n+1=>by rw [b_k,f_D n];rfl
theorem b_i {f:Nat->Int} (n:Nat) (h:∀ k,k < n->f k=0):b_k f n=0:=by rw [a_9 n h,f_D]
theorem j_V (f g:Nat->Int):∀ n,b_k (fun k=>f k+g k) n=b_k f n+b_k g n
 | 0=>rfl
 | n+1=>by rw [b_k,b_k,b_k,j_V f g n];omega
theorem g_p (f:Nat->Int) (n:Nat):∀ m,b_k f (n+m)=b_k f n+b_k (fun k=>f (n+k)) m
 | 0=>by simp [b_k]
 | m+1=>by rw [<- Nat.add_assoc,b_k,g_p f n m,b_k];omega
/-- Two sums, the one in the other, in either order. -/
theorem h_5 (f:Nat->Nat->Int) (n:Nat):∀ m,b_k (fun i=>b_k (fun j=>f i j) n) m=b_k (fun j=>b_k (fun i=>f i j) m) n
 | 0=>by simp only [b_k];rw [f_D]
 | m+1=>by
  rw [b_k,h_5 f n m,<- j_V];rfl
/-- Of a sum where one place alone counts: what stands there. -/
theorem c_R (f:Nat->Int) (j:Nat) (n:Nat) (h:∀ k,k < n->k≠j->f k=0):b_k f n=if j < n then f j else 0:=by
 rw [<- h_V (f j) j n];refine a_9 n fun k D=>?_;by_cases e:k=j
 ·rw [if_pos e,e]
 ·rw [if_neg e,h k D e]
/-- A sum of sums of w each, as one. -/
def m_c (f:Nat->Nat->Int) (w m:Nat):Int:=b_k (fun q=>f (q / w) (q % w)) m
theorem e_e (f:Nat->Nat->Int) (w:Nat):∀ c,m_c f w (c*w)=b_k (fun x=>b_k (fun y=>f x y) w) c
 | 0=>by rw [Nat.zero_mul];rfl
 | c+1=>by
  rw [b_k,<- e_e f w c,Nat.add_mul,Nat.one_mul];show b_k _ (c*w+w)=b_k _ (c*w)+_;rw [g_p]
  congr 1
  refine a_9 w fun y D=>?_;rw [c_O _ _ _ D,d_z _ _ _ D]
/-- Where the greatest of v's m + 1 numbers from b on stands first. -/
def c_t (v:List Int) (b:Nat):Nat->Nat
 | 0=>b
 | m+1=>if v.getD (c_t v b m) 0 < v.getD (b+(m+1)) 0 then b+(m+1) else c_t v b m
theorem e_X (v:List Int) (b:Nat):∀ m,b<=c_t v b m/\c_t v b m<=b+m
 | 0=>⟨Nat.le_refl _,Nat.le_refl _⟩
 | m+1=>by
  have:=e_X v b m;rw [c_t]
  split <;> omega
/-- A Row's number: c rows of l, windows of c by w, at step. -/
def m_d (c l w n step:Nat) (a k:List Int) (q:Nat):Int:=rnd (m_c (fun x y=>a.getD (x*l+q % n*step+y) 0*k.getD ((q / n*c+x)*w+y) 0) w (c*w))
def h_6 (c l w o n step:Nat) (a k:List Int):List Int:=(List.range (o*n)).map (m_d c l w n step a k)
theorem m_e (c l w o n D:Nat) (a k:List Int):(h_6 c l w o n D a k).length=o*n:=by simp [h_6]
/-- What a gradient gives for the rows: one product, where the window's place j comes to l. -/
def bkT (c n w step:Nat) (g k:List Int) (x l i j:Nat):Int:=if j*step<=l/\l - j*step < w then g.getD (i*n+j) 0*k.getD ((i*c+x)*w+(l - j*step)) 0 else 0
def k_L (o c n w step long:Nat) (g k:List Int) (q:Nat):Int:=rnd (b_k (fun j=>b_k (fun i=>bkT c n w step g k (q / long) (q % long) i j) o) n)
def h_7 (o c n w step long:Nat) (g k:List Int):List Int:=(List.range (c*long)).map (k_L o c n w step long g k)
theorem m_f (o c n w E D:Nat) (g k:List Int):(h_7 o c n w E D g k).length=c*D:=by simp [h_7]
theorem m_h (o c n w E D:Nat) (g k:List Int) (q:Nat):k_L o c n w E D g k q=rnd (b_k (fun i=>b_k (fun j=>bkT c n w E g k (q / D) (q % D) i j) n) o):=by
 unfold k_L;rw [h_5]
/-- The same, over all numbers of the window. -/
theorem m_i (c n w D:Nat) (g k:List Int) (x l i j:Nat):bkT c n w D g k x l i j=b_k (fun y=>if j*D+y=l then g.getD (i*n+j) 0*k.getD ((i*c+x)*w+y) 0 else 0) w:=by
 unfold bkT;by_cases H:j*D<=l
 ·rw [c_R _ (l - j*D) w fun y I J=>by rw [if_neg (by omega)]];by_cases E:l - j*D < w
  ·rw [if_pos ⟨H,E⟩,if_pos E,if_pos (by omega)]
  ·rw [if_neg (fun c=>E c.2),if_neg E]
 ·rw [if_neg (fun c=>H c.1),b_i w fun y I=>by rw [if_neg (by omega)]]
/-- What a gradient gives for the windows. -/
def r_T (c n l wide step:Nat) (g a:List Int) (q:Nat):Int:=rnd (b_k (fun j=>g.getD (q / wide / c*n+j) 0*a.getD (q / wide % c*l+j*step+q % wide) 0) n)
def p_o (o c n l wide step:Nat) (g a:List Int):List Int:=(List.range (o*c*wide)).map (r_T c n l wide step g a)
theorem o_r (o c n l D E:Nat) (g a:List Int):(p_o o c n l D E g a).length=o*c*D:=by simp [p_o]
/-- The greatest of each wide numbers: where they stand, and they. -/
def f_6 (l n wide:Nat) (v:List Int) (q:Nat):Nat:=c_t v (q / n*l+q % n*wide) (wide - 1)
def e_B (c l n wide:Nat) (v:List Int):List Int:=(List.range (c*n)).map fun q=>((f_6 l n wide v q:Nat):Int)
def h_8 (c l n wide:Nat) (v:List Int):List Int:=(List.range (c*n)).map fun q=>v.getD (f_6 l n wide v q) 0
theorem m_j (c l n D:Nat) (v:List Int):(e_B c l n D v).length=c*n:=by simp [e_B]
theorem h_9 (c l n D:Nat) (v:List Int):(h_8 c l n D v).length=c*n:=by simp [h_8]
theorem i_K {c l n D q:Nat} (v:List Int) (L:q < c*n) (V:1<=D) (U:n*D<=l):q / n*l+q % n*D+D<=c*l/\f_6 l n D v q < c*l:=by
 have E:q < n*c:=by rw [Nat.mul_comm];exact L
 have H:=e_d E;have O:q / n < c:=e_c E;have J:q % n < n:=Nat.mod_lt _ H;have M:(q % n+1)*D<=n*D:=Nat.mul_le_mul_right _ J;have I:(q / n+1)*l<=c*l:=Nat.mul_le_mul_right _ O;rw [Nat.add_mul,Nat.one_mul] at M I;have R:=(e_X v (q / n*l+q % n*D) (D - 1)).2;unfold f_6;omega
/-- How many stops. -/
def a_M (L wd st:Nat):Nat:=(L - wd) / st+1
/-- A sum of sums of sums of sums, as one. -/
def b_0 (f:Nat->Nat->Nat->Nat->Int) (R S w q:Nat):Int:=b_k (fun t=>f (t / w / S / R) (t / w / S % R) (t / w % S) (t % w)) q
theorem e_C (f:Nat->Nat->Nat->Nat->Int) {R S w o c n y:Nat} (E:c < R) (D:n < S) (H:y < w):b_0 f R S w (((o*R+c)*S+n)*w+(y+1))=b_0 f R S w (((o*R+c)*S+n)*w+y)+f o c n y:=by
 show b_k _ (((o*R+c)*S+n)*w+y+1)=_;rw [b_k,c_O _ _ _ H,d_z _ _ _ H,c_O _ _ _ D,d_z _ _ _ D,c_O _ _ _ E,d_z _ _ _ E];rfl
theorem f_E (f:Nat->Nat->Nat->Nat->Int) (O R S w:Nat):b_0 f R S w (O*R*S*w)=b_k (fun o=>b_k (fun c=>b_k (fun n=>b_k (fun y=>f o c n y) w) S) R) O:=by
 have H:b_0 f R S w (O*R*S*w)=m_c (fun a y=>f (a / S / R) (a / S % R) (a % S) y) w (O*R*S*w):=rfl;have E:b_k (fun a=>b_k (fun y=>f (a / S / R) (a / S % R) (a % S) y) w) (O*R*S)=m_c (fun b n=>b_k (fun y=>f (b / R) (b % R) n y) w) S (O*R*S):=rfl;have D:b_k (fun b=>b_k (fun n=>b_k (fun y=>f (b / R) (b % R) n y) w) S) (O*R)=m_c (fun o c=>b_k (fun n=>b_k (fun y=>f o c n y) w) S) R (O*R):=rfl;rw [H,e_e,E,e_e,D,e_e]
theorem f_F {o S n i:Nat} (D:n < S) (h:o*S+n=i):o=i / S/\n=i % S:=by
 subst h;exact ⟨(c_O _ _ _ D).symm,(d_z _ _ _ D).symm⟩
theorem e_f (i S:Nat):i / S*S+i % S=i:=by rw [Nat.mul_comm];exact Nat.div_add_mod i S
/-- What meets at a number of Row. -/
def n_A (L R S w st:Nat) (a k:List Int) (i o c n y:Nat):Int:=if o*S+n=i then a.getD (c*L+n*st+y) 0*k.getD ((o*R+c)*w+y) 0 else 0
theorem m_k {L O R S w st i:Nat} (a k:List Int) (M:i < O*S):rnd (b_0 (n_A L R S w st a k i) R S w (O*R*S*w))=m_d R L w S st a k i:=by
 have E:i < S*O:=by rw [Nat.mul_comm];exact M
 have J:=e_d E;rw [f_E,c_R _ (i / S) O fun o V D=>?_,if_pos (e_c E)]
 ·unfold m_d
  congr 1
  rw [e_e];refine a_9 R fun c U=>?_;rw [c_R _ (i % S) S fun n H D=>?_,if_pos (Nat.mod_lt _ J)]
  ·refine a_9 w fun y I=>?_;unfold n_A;rw [if_pos (e_f i S)]
  ·refine b_i w fun y I=>?_;unfold n_A;rw [if_neg fun h=>D (f_F H h).2]
 ·refine b_i R fun c U=>b_i S fun n H=>b_i w fun y I=>?_;unfold n_A;rw [if_neg fun h=>D (f_F H h).1]
/-- What meets at a number of BackIn. -/
def inT (L R S w st:Nat) (g k:List Int) (i o c n y:Nat):Int:=if c*L+n*st+y=i then g.getD (o*S+n) 0*k.getD ((o*R+c)*w+y) 0 else 0
theorem o_s {L O R S w st i:Nat} (g k:List Int) (M:i < R*L) (I:∀ n,n < S->n*st+w<=L):rnd (b_0 (inT L R S w st g k i) R S w (O*R*S*w))=k_L O R S w st L g k i:=by
 have D:i < L*R:=by rw [Nat.mul_comm];exact M
 have J:=e_d D;rw [f_E,m_h]
 congr 1
 refine a_9 O fun o ho=>?_;rw [c_R _ (i / L) R fun c hc H=>?_,if_pos (e_c D)]
 ·refine a_9 S fun n E=>?_;rw [m_i];refine a_9 w fun y V=>?_;unfold inT;have hb:=e_f i L;have U:=I n E;by_cases h:n*st+y=i % L
  ·rw [if_pos (by omega),if_pos h]
  ·rw [if_neg (by omega),if_neg h]
 ·refine b_i S fun n E=>b_i w fun y V=>?_;unfold inT;have U:=I n E;rw [if_neg fun h=>H (f_F (n:=n*st+y) (by omega) (by rw [<- Nat.add_assoc];exact h)).1]
/-- What meets at a number of BackKernel. -/
def m_l (L R S w st:Nat) (g a:List Int) (i o c n y:Nat):Int:=if (o*R+c)*w+y=i then g.getD (o*S+n) 0*a.getD (c*L+n*st+y) 0 else 0
theorem m_m {L O R S w st i:Nat} (g a:List Int) (hi:i < O*R*w):rnd (b_0 (m_l L R S w st g a i) R S w (O*R*S*w))=r_T R S L w st g a i:=by
 have J:i < w*(O*R):=by rw [Nat.mul_comm];exact hi
 have hw:=e_d J;have hq:i / w < R*O:=by rw [Nat.mul_comm R O];exact e_c J
 have M:=e_d hq
 have E:∀ o c y,c < R->y < w->(o*R+c)*w+y=i->o=i / w / R/\c=i / w % R/\y=i % w:=by
  intro o c y I H h;have h1:=f_F H h;have U:=f_F I h1.1;exact ⟨U.1,U.2,h1.2⟩
 rw [f_E,c_R _ (i / w / R) O fun o ho D=>?_,if_pos (e_c hq)]
 ·rw [c_R _ (i / w % R) R fun c I D=>?_,if_pos (Nat.mod_lt _ M)]
  ·unfold r_T
   congr 1
   refine a_9 S fun n V=>?_;rw [c_R _ (i % w) w fun y H D=>?_,if_pos (Nat.mod_lt _ hw)]
   ·unfold m_l;rw [if_pos (by rw [e_f,e_f])]
   ·unfold m_l;rw [if_neg fun h=>D (E _ _ _ (Nat.mod_lt _ M) H h).2.2]
  ·refine b_i S fun n V=>b_i w fun y H=>?_;unfold m_l;rw [if_neg fun h=>D (E _ _ _ I H h).2.1]
 ·refine b_i R fun c I=>b_i S fun n V=>b_i w fun y H=>?_;unfold m_l;rw [if_neg fun h=>D (E _ _ _ I H h).1]
theorem e_g (R L O wd st:Nat) (h1:wd<=L) (h2:L<=4096) (h3:1<=st) (h4:st<=64) (w:World):
  Calls Tryz.prog 128 #[.agg #[.int .i64 (R:Int),.int .i64 (L:Int),.int .i64 (O:Int),.int .i64 (wd:Int),.int .i64 (st:Int)]] w fun e w'=>e = .returned (.int .i64 (a_M L wd st:Nat))/\Below w.heap.size w w':=by
 obtain ⟨D,H⟩:∃ D,L - wd=D:=⟨_,rfl⟩
 have M:(L:Int) - (wd:Int)=(D:Int):=by omega
 obtain ⟨q,E⟩:∃ q,D / st=q:=⟨_,rfl⟩
 have U:(D:Int) / (st:Int)=(q:Int):=by rw [<- E];rfl
 have hq:q<=D:=by rw [<- E];exact Nat.div_le_self _ _
 have ab:(q:Int)<=4096:=by omega
 have J:(D:Int)<=4096:=by omega
 have aa:(L:Int)<=4096:=by omega
 have ac:(wd:Int)<=4096:=by omega
 have V:1<=(st:Int)/\(st:Int)<=64:=by omega
 have I:((a_M L wd st:Nat):Int)=(q:Int)+1:=by unfold a_M;rw [H,E];rfl
 rw [I];clear I H E;go_enter Tryz.func128,Tryz.ntmps128;go_wp2;go_ret;exact ⟨rfl,by go_grown⟩
theorem d_g (st:Int) (w:World):
  Calls Tryz.prog 126 #[.int .i64 st] w fun e H=>e = .returned (.bool (decide (1<=st/\st<=64)))/\Below w.heap.size w H:=by
 by_cases E:1<=st
 ·by_cases D:st<=64
  ·rw [decide_eq_true ⟨E,D⟩];go_enter Tryz.func126,Tryz.ntmps126;go_wp2;go_ret;exact ⟨rfl,by go_grown⟩
  ·rw [decide_eq_false fun h=>D h.2];go_enter Tryz.func126,Tryz.ntmps126;go_wp2;go_ret;exact ⟨rfl,by go_grown⟩
 ·rw [decide_eq_false fun h=>E h.1];go_enter Tryz.func126,Tryz.ntmps126;go_wp2;go_ret;exact ⟨rfl,by go_grown⟩
theorem d_N (n:Int) (w:World):
  Calls Tryz.prog 127 #[.int .i64 n] w fun e H=>e = .returned (.bool (decide (1<=n/\n<=4096)))/\Below w.heap.size w H:=by
 by_cases E:1<=n
 ·by_cases D:n<=4096
  ·rw [decide_eq_true ⟨E,D⟩];go_enter Tryz.func127,Tryz.ntmps127;go_wp2;go_ret;exact ⟨rfl,by go_grown⟩
  ·rw [decide_eq_false fun h=>D h.2];go_enter Tryz.func127,Tryz.ntmps127;go_wp2;go_ret;exact ⟨rfl,by go_grown⟩
 ·rw [decide_eq_false fun h=>E h.1];go_enter Tryz.func127,Tryz.ntmps127;go_wp2;go_ret;exact ⟨rfl,by go_grown⟩
/-- A slide's numbers, in a block. -/
def SlC (W:World) (b R L O wd st:Nat):Prop:=
 W.cell? ⟨b,0,none⟩=some (.int .i64 (R:Int))/\W.cell? ⟨b,1,none⟩=some (.int .i64 (L:Int))/\W.cell? ⟨b,2,none⟩=some (.int .i64 (O:Int))/\W.cell? ⟨b,3,none⟩=some (.int .i64 (wd:Int))/\W.cell? ⟨b,4,none⟩=some (.int .i64 (st:Int))
theorem SlC.up {W W':World} {b R L O wd st:Nat} (h:SlC W b R L O wd st) (D:Below W.heap.size W W'):SlC W' b R L O wd st:=
 ⟨a_d h.1 D,a_d h.2.1 D,a_d h.2.2.1 D,a_d h.2.2.2.1 D,a_d h.2.2.2.2 D⟩
theorem SlC.stay {W W':World} {g b R L O wd st:Nat} (h:SlC W b R L O wd st) (E:Stay g W W') (D:b≠g):SlC W' b R L O wd st:=
 ⟨E.cell h.1 D,E.cell h.2.1 D,E.cell h.2.2.1 D,E.cell h.2.2.2.1 D,E.cell h.2.2.2.2 D⟩
theorem f_G (K:FuncId) (aG:∀ args W,(callFunc K args).run Tryz.prog W = .ok (.enter K args) W) (u0 u1 u2:Value) (b R L O wd st S:Nat) (hS:a_M L wd st=S) (h1:wd<=L) (h2:L<=4096) (h3:1<=st) (h4:st<=64) (h5:O*R*wd<=4096) (h6:O*S<=4096) (h7:R*L<=4096) (h8:O<=4096) (h9:R<=4096)
  (I:Nat->World->Prop) (hI:∀ q W W',I q W->Below W.heap.size W W'->I q W')
  (hK:∀ o c n y,o < O->c < R->n < S->y < wd->∀ W,I (((o*R+c)*S+n)*wd+y) W->Calls Tryz.prog K #[.int .i64 ((c*L+n*st+y:Nat):Int),.int .i64 (((o*R+c)*wd+y:Nat):Int),.int .i64 ((o*S+n:Nat):Int),u0,u1,u2] W fun e H=>e = .returned (.tuple #[])/\I (((o*R+c)*S+n)*wd+(y+1)) H/\Stay b W H/\Below b W H)
  (w:World) (hb:b < w.heap.size) (h0:I 0 w):
  Calls Tryz.prog 131 #[.agg #[.int .i64 (R:Int),.int .i64 (L:Int),.int .i64 (O:Int),.int .i64 (wd:Int),.int .i64 (st:Int)],.func (.func K) #[] #[u0,u1,u2]] w fun e H=>e = .returned (.tuple #[])/\I (O*R*S*wd) H/\Stay b w H/\Below b w H:=by
 have cS:∀ W:World,Calls Tryz.prog 128 #[.agg #[.int .i64 (R:Int),.int .i64 (L:Int),.int .i64 (O:Int),.int .i64 (wd:Int),.int .i64 (st:Int)]] W fun e H=>e = .returned (.int .i64 (S:Int))/\Below W.heap.size W H:=fun W=>by rw [<- hS];exact e_g R L O wd st h1 h2 h3 h4 W
 have HI:Hid (∀ q W W',I q W->Below W.heap.size W W'->I q W'):=hI;have HK:Hid (∀ o c n y,o < O->c < R->n < S->y < wd->∀ W,I (((o*R+c)*S+n)*wd+y) W->Calls Tryz.prog K #[.int .i64 ((c*L+n*st+y:Nat):Int),.int .i64 (((o*R+c)*wd+y:Nat):Int),.int .i64 ((o*S+n:Nat):Int),u0,u1,u2] W fun e H=>e = .returned (.tuple #[])/\I (((o*R+c)*S+n)*wd+(y+1)) H/\Stay b W H/\Below b W H):=hK;have H0:Hid (I 0 w):=h0
 have HR:Hid ((∀ n,n < S->n*st+wd<=L)/\O*R*wd<=4096/\O*S<=4096/\R*L<=4096):=⟨fun n hn=>by
  unfold a_M at hS;have:n<=(L - wd) / st:=by omega
  have:=(Nat.le_div_iff_mul_le (by omega)).1 this;omega,h5,h6,h7⟩
 have a1:S<=4097:=by rw [<- hS];unfold a_M;have:=Nat.div_le_self (L - wd) st;omega
 have av:(wd:Int)<=4096/\(L:Int)<=4096/\1<=(st:Int)/\(st:Int)<=64/\(O:Int)<=4096/\(R:Int)<=4096/\(S:Int)<=4097:=by omega
 obtain ⟨aX,aT,aY,aJ,aQ,aW,aL⟩:=av;clear hI hK h0 h5 h6 h7 hS h1 h2 h3 h4;haveI:Nonempty World:=⟨w⟩
 go_enter Tryz.func131,Tryz.ntmps131;go_wp2_with fail
 generalize ae:World.alloc _ _=W0;have am:Below w.heap.size w W0:=by rw [<- ae];exact a_b w _
 have X0:SlC W0 w.heap.size R L O wd st:=by unfold SlC;rw [<- ae];simp [go_sem]
 clear ae;refine (cS W0).mono ?_;rintro e D ⟨rfl,ah⟩;have hB:Below w.heap.size w D:=a_c am ah;have V:Hid (SlC D w.heap.size R L O wd st/\b < w.heap.size):=⟨X0.up ah,hb⟩
 have H1:Hid (I (0*R*S*wd) D/\Stay b w D/\Below b w D):=⟨by rw [Nat.zero_mul,Nat.zero_mul,Nat.zero_mul];exact HI.out _ _ _ H0.out hB,Stay.of hB,hB.mono (Nat.le_of_lt hb)⟩
 clear am X0 ah hB cS hb H0;obtain ⟨z0,z1,z2,z3,z4⟩:=V.out.1;have zl:=a_a z0;obtain ⟨G,eG⟩:∃ G,w.heap.size=G:=⟨_,rfl⟩
 rw [eG] at z0 z1 z2 z3 z4 V ⊢;clear eG;go_wp2_with fail
 clear z0 z1 z2 z3 z4 zl
 go_loopg [15] O (fun gg i wr=>∃ (o:Nat),o<=O/\gg=O - o/\i = .int .i64 (o:Int)/\Hid (I (o*R*S*wd) wr/\Stay b w wr/\Below b w wr/\Stay b D wr))
 case atStart=>exact ⟨0,by omega,by omega,by first|rfl|simp,H1.out.1,H1.out.2.1,H1.out.2.2,Stay.refl _ _⟩
 case round=>
  obtain ⟨o,ho,aP,rfl,Ho⟩:=hrel;obtain ⟨R1,ax⟩:∃ R1:World,R1=wr:=⟨_,rfl⟩
  subst ax;by_cases J:o < O
  ·have aU:(o:Int) < (O:Int):=by omega
   obtain ⟨z0,z1,z2,z3,z4⟩:=V.out.1.stay Ho.out.2.2.2 (by have:=V.out.2;omega);have zl:=a_a z0;go_wp2_with fail
   clear z0 z1 z2 z3 z4 zl;rw [show o*R*S=(o*R+0)*S from rfl] at Ho
   go_loopg [20] R (fun gg i wr=>∃ (c:Nat),c<=R/\gg=R - c/\i = .int .i64 (c:Int)/\Hid (I ((o*R+c)*S*wd) wr/\Stay b w wr/\Below b w wr/\Stay b D wr))
   case atStart=>exact ⟨0,by omega,by omega,by first|rfl|simp,Ho⟩
   case round=>
    obtain ⟨c,hc,aZ,rfl,Hc⟩:=hrel;obtain ⟨R2,az⟩:∃ R2:World,R2=wr:=⟨_,rfl⟩
    subst az;by_cases aa:c < R
    ·have aO:(c:Int) < (R:Int):=by omega
     go_wp2_with fail
     rw [show (o*R+c)*S=(o*R+c)*S+0 from rfl] at Hc
     go_loopg [24] S (fun gg i wr=>∃ (n:Nat),n<=S/\gg=S - n/\i = .int .i64 (n:Int)/\Hid (I (((o*R+c)*S+n)*wd) wr/\Stay b w wr/\Below b w wr/\Stay b D wr))
     case atStart=>exact ⟨0,by omega,by omega,by first|rfl|simp,Hc⟩
     case round=>
      obtain ⟨n,hn,aV,rfl,Hn⟩:=hrel;obtain ⟨U,aw⟩:∃ U:World,U=wr:=⟨_,rfl⟩
      subst aw;by_cases ai:n < S
      ·have a0:(n:Int) < (S:Int):=by omega
       obtain ⟨z0,z1,z2,z3,z4⟩:=V.out.1.stay Hn.out.2.2.2 (by have:=V.out.2;omega);have zl:=a_a z0;have b1:=HR.out.1 n ai;have b2:(c+1)*L<=R*L:=Nat.mul_le_mul_right L aa;have b3:(o*R+c+1)*wd<=O*R*wd:=Nat.mul_le_mul_right wd (a_0 J aa);have b4:o*S+n < O*S:=a_0 J ai;have b5:=HR.out.2;rw [Nat.add_mul,Nat.one_mul] at b2 b3;have b6:=a_0 J aa;have b7:o*R<=O*R:=Nat.mul_le_mul_right R (Nat.le_of_lt J);have b8:O*R<=16777216:=Nat.mul_le_mul h8 h9;obtain ⟨A,eA⟩:∃ A,c*L=A:=⟨_,rfl⟩
       obtain ⟨B,eB⟩:∃ B,n*st=B:=⟨_,rfl⟩
       obtain ⟨C,eC⟩:∃ C,o*R=C:=⟨_,rfl⟩
       obtain ⟨OR,au⟩:∃ C,O*R=C:=⟨_,rfl⟩
       obtain ⟨RL,ag⟩:∃ C,R*L=C:=⟨_,rfl⟩
       have ay:(c:Int)*(L:Int)=(A:Int):=by rw [<- eA];push_cast;rfl
       have aC:(n:Int)*(st:Int)=(B:Int):=by rw [<- eB];push_cast;rfl
       have aE:(o:Int)*(R:Int)=(C:Int):=by rw [<- eC];push_cast;rfl
       rw [eC] at b3 b6 b7;rw [eA,ag] at b2;rw [eB] at b1;rw [au] at b6 b7 b8;rw [ag] at b5;obtain ⟨E,eE⟩:∃ E,C+c=E:=⟨_,rfl⟩
       have aA:(C:Int)+(c:Int)=(E:Int):=by omega
       obtain ⟨AB,ao⟩:∃ E,A+B=E:=⟨_,rfl⟩
       have ar:(A:Int)+(B:Int)=(AB:Int):=by omega
       rw [eE] at b3 b6;obtain ⟨KB,ab⟩:∃ E',E*wd=E':=⟨_,rfl⟩
       have ap:(E:Int)*(wd:Int)=(KB:Int):=by rw [<- ab];push_cast;rfl
       rw [ab] at b3;obtain ⟨OS,ac⟩:∃ E',o*S=E':=⟨_,rfl⟩
       have aF:(o:Int)*(S:Int)=(OS:Int):=by rw [<- ac];push_cast;rfl
       obtain ⟨Q,eQ⟩:∃ E',OS+n=E':=⟨_,rfl⟩
       have aK:(OS:Int)+(n:Int)=(Q:Int):=by omega
       rw [ac,eQ] at b4;have HE:Hid (c*L+n*st=AB/\(o*R+c)*wd=KB/\o*S+n=Q):=⟨by rw [eA,eB,ao],by rw [eC,eE,ab],by rw [ac,eQ]⟩
       have aS:(A:Int)<=10000/\(B:Int)<=10000/\(C:Int)<=16777216/\(E:Int)<=16777217:=by omega
       have aM:(AB:Int)+(wd:Int)<=20000/\(KB:Int)+(wd:Int)<=20000/\(Q:Int)<=20000/\(OS:Int)<=20000:=by omega
       clear eA eB eC au ag eE ao ab ac eQ b1 b2 b3 b4 b5 b6 b7 b8;go_wp2_with fail
       go_quiet (fail)
       generalize an:World.drewN U nq=w5;have M:Below U.heap.size U w5:=by rw [<- an];exact a_m (Below.refl _ _) nq
       have ad:Hid (I (((o*R+c)*S+n)*wd) w5/\Stay b w w5/\Below b w w5/\Stay b D w5):=⟨HI.out _ _ _ Hn.out.1 M,Hn.out.2.1.up M,Hn.out.2.2.1.trans (M.mono (by have h:=V.out.2;have h2:=a_a z0;omega)),Hn.out.2.2.2.up M⟩
       clear an M z0 z1 z2 z3 z4 zl;obtain ⟨z0,z1,z2,z3,z4⟩:=V.out.1.stay ad.out.2.2.2 (by have:=V.out.2;omega);have zl:=a_a z0;go_wp2_with fail
       clear z0 z1 z2 z3 z4 zl ay aC aE aA ar ap;rw [show ((o*R+c)*S+n)*wd=((o*R+c)*S+n)*wd+0 from rfl] at ad
       go_loopg [47] wd (fun gg i wr=>∃ (y:Nat),y<=wd/\gg=wd - y/\i = .int .i64 (y:Int)/\Hid (I (((o*R+c)*S+n)*wd+y) wr/\Stay b w wr/\Below b w wr/\Stay b D wr))
       case atStart=>exact ⟨0,by omega,by omega,by first|rfl|simp,ad⟩
       case round=>
        obtain ⟨y,hy,aN,rfl,Hy⟩:=hrel;obtain ⟨R4,aB⟩:∃ R4:World,R4=wr:=⟨_,rfl⟩
        subst aB;by_cases aD:y < wd
        ·have aR:(y:Int) < (wd:Int):=by omega
         have cK:=HK.out o c n y J aa ai aD R4 Hy.out.1;obtain ⟨P1,aj⟩:∃ P,c*L+n*st+y=P:=⟨_,rfl⟩
         obtain ⟨P2,aq⟩:∃ P,(o*R+c)*wd+y=P:=⟨_,rfl⟩
         rw [aj,aq,HE.out.2.2] at cK;have aI:(AB:Int)+(y:Int)=(P1:Int):=by have:=HE.out.1;omega
         have aH:(KB:Int)+(y:Int)=(P2:Int):=by have:=HE.out.2.1;omega
         have bP:(P1:Int)<=40000/\(P2:Int)<=40000:=by omega
         clear aj aq;go_wp2_with fail
         refine cK.mono ?_;rintro e w4 ⟨rfl,hJ,af,ak⟩;have Hz:Hid (I (((o*R+c)*S+n)*wd+(y+1)) w4/\Stay b w w4/\Below b w w4/\Stay b D w4):=⟨hJ,Hy.out.2.1.trans af,Hy.out.2.2.1.trans ak,Hy.out.2.2.2.trans af⟩
         clear hJ af ak cK;go_wp2;go_roundg (wd - (y+1))
         case measure=>omega
         case rel=>exact ⟨y+1,by omega,rfl,by first|rfl|simp,Hz⟩
        ·obtain rfl:y=wd:=by omega
         have Hz:Hid (I (((o*R+c)*S+(n+1))*y) R4/\Stay b w R4/\Below b w R4/\Stay b D R4):=⟨by rw [<- Nat.add_assoc,Nat.add_mul _ 1,Nat.one_mul];exact Hy.out.1,Hy.out.2⟩
         go_wp2;go_roundg (S - (n+1))
         case measure=>omega
         case rel=>exact ⟨n+1,by omega,rfl,by first|rfl|simp,Hz⟩
      ·obtain rfl:n=S:=by omega
       have Hz:Hid (I ((o*R+(c+1))*n*wd) U/\Stay b w U/\Below b w U/\Stay b D U):=⟨by rw [<- Nat.add_assoc,Nat.add_mul _ 1,Nat.one_mul];exact Hn.out.1,Hn.out.2⟩
       go_wp2;go_roundg (R - (c+1))
       case measure=>omega
       case rel=>exact ⟨c+1,by omega,rfl,by first|rfl|simp,Hz⟩
    ·obtain rfl:c=R:=by omega
     have Hz:Hid (I ((o+1)*c*S*wd) R2/\Stay b w R2/\Below b w R2/\Stay b D R2):=⟨by rw [Nat.add_mul,Nat.one_mul];exact Hc.out.1,Hc.out.2⟩
     go_wp2;go_roundg (O - (o+1))
     case measure=>omega
     case rel=>exact ⟨o+1,by omega,rfl,by first|rfl|simp,Hz⟩
  ·obtain rfl:o=O:=by omega
   go_wp2
   go_end0
   exact ⟨rfl,Ho.out.1,Ho.out.2.1,Ho.out.2.2.1⟩
theorem s_9:∃ D,Tryz.prog.info? 200=some D/\D.zero=some (.agg #[.int .i64 0,.int .u64 0,.int .i64 0,.int .u64 0])/\D.size=4/\D.bytes=32:=by
 have h:(Tryz.prog.info? 200).map (fun i=>(i.zero,i.size,i.bytes))=some (some (.agg #[.int .i64 0,.int .u64 0,.int .i64 0,.int .u64 0]),4,32):=by kernel_rfl
 cases E:Tryz.prog.info? 200 with
 | none=>rw [E] at h;cases h
 | some i=>
  rw [E] at h;simp only [Option.map_some,Option.some.injEq,Prod.mk.injEq] at h;exact ⟨i,rfl,h.1,h.2.1,h.2.2⟩
/-- Sums that were just made: all 0. -/
theorem m_n {W:World} {B g n:Nat} {e:TypeId} (h:W.ownsRow B e 4 (.slice (some ⟨g,0,none⟩) n n) n (madeCells (Value.agg #[.int .i64 0,.int .u64 0,.int .i64 0,.int .u64 0]).cells (n*4)).toList):∀ i,i < n->SumAt W g (i*4) 0 0:=by
 intro i hi
 have hf:∀ j,W.frozen? ⟨g,j,none⟩=false:=by
  intro j;rcases h.2 with ⟨I,_⟩|⟨q,aa,ab,I,h2,h3,_⟩
  ·cases I
  ·cases I;unfold World.frozen?;simp [h3]
 have V:∀ r,r < 4->(madeCells (Value.agg #[.int .i64 0,.int .u64 0,.int .i64 0,.int .u64 0]).cells (n*4)).toList[i*4+r]?=(#[Value.int .i64 0,.int .u64 0,.int .i64 0,.int .u64 0]:Array Value)[r]?:=by
  intro r H;have O:(Value.agg #[.int .i64 0,.int .u64 0,.int .i64 0,.int .u64 0]).cells=#[Value.int .i64 0,.int .u64 0,.int .i64 0,.int .u64 0]:=rfl;unfold madeCells;rw [O,Array.getElem?_toList,Array.getElem?_map,Array.getElem?_range];rw [if_pos (by omega)];have D:(i*4+r) % 4=r:=by omega
  simp only [Option.map_some]
  match r,H with
  | 0,_=>rw [show (#[Value.int .i64 0,.int .u64 0,.int .i64 0,.int .u64 0]:Array Value).size=4 from rfl,D];rfl
  | 1,_=>rw [show (#[Value.int .i64 0,.int .u64 0,.int .i64 0,.int .u64 0]:Array Value).size=4 from rfl,D];rfl
  | 2,_=>rw [show (#[Value.int .i64 0,.int .u64 0,.int .i64 0,.int .u64 0]:Array Value).size=4 from rfl,D];rfl
  | 3,_=>rw [show (#[Value.int .i64 0,.int .u64 0,.int .i64 0,.int .u64 0]:Array Value).size=4 from rfl,D];rfl
 have E:∀ r u,r < 4->(#[Value.int .i64 0,.int .u64 0,.int .i64 0,.int .u64 0]:Array Value)[r]?=some u->W.cell? ⟨g,i*4+r,none⟩=some u:=by
  intro r u H M;have:=World.ownsRow.cells h rfl (i*4+r) u (by rw [V r H];exact M);rw [a_t,Nat.zero_add] at this;exact this
 have J:=E 0 _ (by omega) rfl;have R:=E 1 _ (by omega) rfl;have U:=E 2 _ (by omega) rfl;have c3:=E 3 _ (by omega) rfl;have L:=b_w J;exact ⟨0,0,by omega,by omega,by omega,by omega,by omega,⟨L,J,R,hf _,hf _⟩,L,U,c3,hf _,hf _⟩
theorem LieA.stay {W W':World} {g b o:Nat} {x:Int} (h:LieA W b o x) (D:Stay g W W') (E:b≠g):LieA W' b o x:=
 ⟨Nat.lt_of_lt_of_le h.1 D.size,D.cell h.2.1 E,D.cell h.2.2.1 E,by rw [D.frozen h.1 E];exact h.2.2.2.1,by rw [D.frozen h.1 E];exact h.2.2.2.2⟩
theorem SumAt.stay {W W':World} {g b o m:Nat} {T:Int} (h:SumAt W b o m T) (D:Stay g W W') (E:b≠g):SumAt W' b o m T:=by
 obtain ⟨A,B,e,O,J,M,H,I,L⟩:=h;exact ⟨A,B,e,O,J,M,H,I.stay D E,L.stay D E⟩
/-- The tensor of the sums. -/
def f_7 (d:List Int):Int:=if goodN (ntl d) then 0 else 2
def p_p (d:List Int) (F:Nat->Int):List Int:=if goodN (ntl d) then (List.range (a_e (ntl d))).map fun i=>rnd (F i) else []
theorem b_B (K:FuncId) (aL:∀ args W,(callFunc K args).run Tryz.prog W = .ok (.enter K args) W) (u0 u1 u2:Value) (p:Option Addr) (n c:Nat) (d:List Int) (hd:RI d) (F:Nat->Int) (M:Nat) (hM:M<=1073741824) (w:World) (hT:Hid (Tz w)) (h1:Nums .i64 w (.slice p n c) d)
  (hK:goodN (ntl d)->∀ W b,Below w.heap.size w W->w.heap.size<=b->b < W.heap.size->(∀ i,i < a_e (ntl d)->SumAt W b (i*4) 0 0)->Calls Tryz.prog K #[.slice (some ⟨b,0,none⟩) (a_e (ntl d)) (a_e (ntl d)),u0,u1,u2] W fun e w'=>e = .returned (.tuple #[])/\(∀ i,i < a_e (ntl d)->SumAt w' b (i*4) M (F i))/\Stay b W w'/\Below b W w'):
  Calls Tryz.prog 129 #[.slice p n c,.func (.func K) #[] #[u0,u1,u2]] w fun e w'=>∃ v',e = .returned (.tuple #[v',.int .i64 (f_7 d)])/\TRes w' w.heap.size v' (d_Y d) (p_p d F)/\Below w.heap.size w w':=by
 have cN:=fun W (hW:Below w.heap.size w W)=>c_Q _ d hd 0 W (h1.up hW);haveI:Nonempty World:=⟨w⟩
 by_cases J:goodN (ntl d)
 ·have O:l_9 d=0/\d_Y d=d/\m_a d 0=List.replicate (a_e (ntl d)) 0/\f_7 d=0/\p_p d F=(List.range (a_e (ntl d))).map fun i=>rnd (F i):=⟨if_pos J,if_pos J,if_pos J,if_pos J,if_pos J⟩
  rw [O.1,O.2.1,O.2.2.1] at cN;rw [O.2.1,O.2.2.2.1,O.2.2.2.2];have an:=hK J;have hN:1<=a_e (ntl d)/\a_e (ntl d)<=4096:=⟨J.pos,J.2.2⟩
  obtain ⟨N,eN⟩:∃ N,a_e (ntl d)=N:=⟨_,rfl⟩
  rw [eN] at cN an hN ⊢;have aQ:1<=(N:Int)/\(N:Int)<=4096:=by omega
  obtain ⟨V,eV⟩:∃ V,(List.range N).map (fun i=>rnd (F i))=V:=⟨_,rfl⟩
  rw [eV];have HV:Hid (V.length=N/\∀ i,i < N->V.getD i 0=rnd (F i)):=⟨by rw [<- eV];simp,fun i hi=>by rw [<- eV];exact a_J _ _ _ _ hi⟩
  have HK:Hid (∀ W b,Below w.heap.size w W->w.heap.size<=b->b < W.heap.size->(∀ i,i < N->SumAt W b (i*4) 0 0)->Calls Tryz.prog K #[.slice (some ⟨b,0,none⟩) N N,u0,u1,u2] W fun e w'=>e = .returned (.tuple #[])/\(∀ i,i < N->SumAt w' b (i*4) M (F i))/\Stay b W w'/\Below b W w'):=an;have aK:Hid (M<=1073741824):=hM;clear O hK an eN eV J hd h1 hM;obtain ⟨i0,hi,aE,aG,au⟩:=s_9;go_enter Tryz.func129,Tryz.ntmps129;go_wp2_with fail
  generalize L:World.alloc _ _=W0;have B0:Below w.heap.size w W0:=by rw [<- L];exact a_b w _
  have XR:Hid (Cel W0 w.heap.size (.slice none 0 0) (.slice none 0 0)):=a_F L (by simp [go_sem]);have ac:Hid (Below w.heap.size w W0/\w.heap.size < W0.heap.size):=⟨B0,a_a XR.out.1⟩
  clear L B0;refine (cN W0 ac.out.1).mono ?_;rintro e w1 ⟨v1,rfl,⟨s1,t1,rfl,ab,I⟩,R⟩;obtain ⟨U,n1,c1,rfl,_⟩:=ab.nums.lst;obtain ⟨D,cv,rfl,aA⟩:=I.at (by rw [List.length_replicate];omega)
  rw [List.length_replicate] at I ⊢;obtain ⟨cs,fz,aw⟩:=I.obj;have am:Off D (.slice U n1 c1):=ab.off_type aw (by decide);go_wp2_with (at_make;generalize ap:World.alloc _ _=W2;refine wpList_make_full W2 rfl (.tmp 20) (.tmp 20) 197 rfl W2.heap.size 200 i0 _ 4 Tryz.underlying197 hi aE aG .i64 .i64 N N N rfl rfl rfl rfl (by rw [au];omega) (by unfold maxLen;omega) (Nat.le_refl _) ?_;intro w3 aa ad;have B3:Below W2.heap.size W2 w3:=Below.grown (Below.refl _ _) ad (Nat.le_refl _) (fun j hj=>by cases hj);have H3:Hid (∀ i,i < N->SumAt w3 W2.heap.size (i*4) 0 0):=m_n aa;clear aa ad)
  have B2:Below w1.heap.size w1 W2:=by rw [<- ap];exact a_b w1 _
  have XT:Hid (Cel W2 w1.heap.size (.slice U n1 c1) (.slice (some ⟨D,0,none⟩) N cv)):=by show Cel _ _ _ _;unfold Cel;rw [<- ap];simp [go_sem]
  have aB:Hid (OwnK .i64 3 W2 W0.heap.size (.slice U n1 c1) d/\OwnK .i64 48 W2 W0.heap.size (.slice (some ⟨D,0,none⟩) N cv) (b_I V 0)/\Off D (.slice U n1 c1)/\W0.heap.size<=D):=⟨ab.up B2,by rw [a_1,HV.out.1];exact I.up B2,am,aA⟩
  have ai:Hid (Below w.heap.size w W2/\Below W0.heap.size W0 W2):=⟨a_c ac.out.1 (a_c R B2),a_c R B2⟩
  have Hg:Hid (w1.heap.size < W2.heap.size/\W0.heap.size<=w1.heap.size/\D < w1.heap.size/\w.heap.size < W0.heap.size):=⟨a_a XT.out.1,R.size,I.size,ac.out.2⟩
  obtain ⟨g6,e6⟩:∃ g,w1.heap.size=g:=⟨_,rfl⟩
  rw [e6] at XT Hg ⊢;clear ap B2 ab I R am aA aw cN e6;have af:Below w.heap.size w w3:=a_c ai.out.1 B3;refine (HK.out w3 W2.heap.size af ai.out.1.size (H3.out 0 (by omega)).lt H3.out).mono ?_;rintro e w4 ⟨rfl,aq,aF,H⟩;have ar:w.heap.size<=W2.heap.size:=ai.out.1.size;have aI:Hid (Below w.heap.size w w4):=af.trans (H.mono ar)
  have ae:Hid (OwnK .i64 3 w4 W0.heap.size (.slice U n1 c1) d/\OwnK .i64 48 w4 W0.heap.size (.slice (some ⟨D,0,none⟩) N cv) (b_I V 0)/\Off D (.slice U n1 c1)/\W0.heap.size<=D):=by
   have q:=aB.out;have g:=Hg.out;have hb:Below W2.heap.size w3 w4:=H;have av:Below W2.heap.size W2 w4:=B3.trans hb;exact ⟨q.1.up av,q.2.1.up av,q.2.2⟩
  have ax:Hid (Cel w4 g6 (.slice U n1 c1) (.slice (some ⟨D,0,none⟩) N cv)):=XT.out.up (B3.trans H);have aJ:Hid (Cel w4 w.heap.size (.slice none 0 0) (.slice none 0 0)):=(XR.out.up ai.out.2).up (B3.trans H);have ay:Hid (∀ i,i < N->SumAt w4 W2.heap.size (i*4) M (F i)):=aq;have aC:Hid (D < W2.heap.size/\g6 < W2.heap.size):=⟨by have:=Hg.out;omega,Hg.out.1⟩
  obtain ⟨gs,az⟩:∃ g,W2.heap.size=g:=⟨_,rfl⟩
  rw [az] at ay aC ⊢;clear aq aF H af ar H3 B3 XT XR aB az hi aE aG au i0;go_wp2_with fail
  go_loopg [27] N (fun gg i wr=>∃ (k:Nat),k<=N/\gg=N - k/\i = .int .i64 (k:Int)/\Hid (OwnK .i64 48 wr W0.heap.size (.slice (some ⟨D,0,none⟩) N cv) (b_I V k))/\Hid (Below w.heap.size w wr/\Stay D w4 wr))
  case atStart=>exact ⟨0,by omega,by omega,by first|rfl|simp,ae.out.2.1,aI.out,Stay.refl _ _⟩
  case round=>
   obtain ⟨k,hk,aN,rfl,HO,E⟩:=hrel;obtain ⟨R1,aH⟩:∃ R1:World,R1=wr:=⟨_,rfl⟩
   subst aH;by_cases ah:k < N
   ·have aM:(k:Int) < (N:Int):=by omega
    have ag:Hid (SumAt R1 gs (k*4) M (F k)):=(ay.out k ah).stay E.out.2 (by have:=aC.out;omega);obtain ⟨Z,eZ⟩:∃ Z,V.getD k 0=Z:=⟨_,rfl⟩
    have HZ:Hid (V.getD k 0=Z):=eZ
    have cz:∀ W,Below R1.heap.size R1 W->Calls Tryz.prog 165 #[.pointer (some ⟨gs,k*4,none⟩)] W fun e w'=>e = .returned (.int .i64 Z)/\Below W.heap.size W w':=fun W hW=>by
     rw [<- eZ,HV.out.2 k ah];exact o_e gs (k*4) M (F k) aK.out W (Hid.up_tz hT (a_c E.out.1 hW)) (ag.out.up hW)
    obtain ⟨t0,t1,_,_⟩:=ax.out.stay E.out.2 (by have:=Hg.out;omega);have t9:=a_a t0;have s9:=ag.out.lt;clear eZ;go_wp2_with fail
    refine j_B 8 40 (by kernel_rfl) rfl rfl (by kernel_rfl) ?_;apply Exists.intro;refine ⟨?_,?_⟩
    ·intro F hF;have hFc:=hF.cell;have hFf:=hF.frozen;simp only [List.take_succ_cons,List.take_zero,List.eraseIdx_cons_succ,List.eraseIdx_cons_zero]
     repeat (go_big_quiet_step (first|(go_at_call 165;with_reducible exact hF.call (cz _ (hF.below _)))))
     refine wpQuiet_nil ?_;exact rfl
    ·intro W5 aj;simp only [List.drop_succ_cons,List.drop_zero];have ao:=HO.out.up aj;obtain ⟨aa,aO⟩:=ao.cell (by rw [a_z];exact HV.out.1) k ah;have aP:=a_a aa
     have H5:Hid (OwnK .i64 48 (W5.setCell ⟨D,k,none⟩ (.int .i64 Z)) W0.heap.size (.slice (some ⟨D,0,none⟩) N cv) (b_I V (k+1))):=by
      have:=ao.store (by rw [a_z];exact HV.out.1) k Z;rw [<- HZ.out,b_r V k (by rw [HV.out.1];exact ah)] at this;rw [<- HZ.out];exact this
     have aD:w.heap.size<=D:=by have:=Hg.out;have:=ae.out.2.2.2;omega
     have H6:Hid (Below w.heap.size w (W5.setCell ⟨D,k,none⟩ (.int .i64 Z))/\Stay D w4 (W5.setCell ⟨D,k,none⟩ (.int .i64 Z))):=⟨(a_c E.out.1 aj).setCell (p:=⟨D,k,none⟩) aD _,(E.out.2.up aj).set _ _⟩
     clear aj ao cz t0 t1 t9 s9 ag HO E aD;go_wp2;go_roundg (N - (k+1))
     case measure=>omega
     case rel=>exact ⟨k+1,by omega,rfl,by first|rfl|simp,H5,H6⟩
   ·obtain rfl:k=N:=by omega
    have ak:=HO.out;rw [<- HV.out.1,b_h,HV.out.1] at ak;have xR:=aJ.out.stay E.out.2 (by have:=Hg.out;have:=ae.out.2.2.2;omega);have xT:=ax.out.stay E.out.2 (by have:=Hg.out;omega);have o1:=ae.out.1.stay E.out.2 ae.out.2.2.1
    have HF:Hid (TRes (set2 R1 w.heap.size (.slice U n1 c1) (.slice (some ⟨D,0,none⟩) k cv)) w.heap.size (.agg #[.slice U n1 c1,.slice (some ⟨D,0,none⟩) k cv]) d V/\Below w.heap.size w (set2 R1 w.heap.size (.slice U n1 c1) (.slice (some ⟨D,0,none⟩) k cv))):=
     ⟨(TRes.set o1 ak (by have:=Hg.out;omega)).low (by have:=Hg.out;omega),a_j E.out.1 _ (Nat.le_refl _) _ _⟩
    have cf:=xR.set (.slice U n1 c1) (.slice (some ⟨D,0,none⟩) k cv);obtain ⟨t0,t1,_,_⟩:=xT;obtain ⟨r0,r1,r2,r3⟩:=xR;obtain ⟨y0,y1,_,_⟩:=cf;have t9:=a_a t0;have r9:=a_a r0;go_wp2;exact bodyPost_ret (v:=.tuple #[.agg #[.slice U n1 c1,.slice (some ⟨D,0,none⟩) k cv],.int .i64 0]) (by simp [results,Tryz.results129,go_sem,y0,y1]) rfl ⟨_,rfl,HF.out⟩
 ·have O:l_9 d=1/\d_Y d = []/\m_a d 0 = []/\f_7 d=2/\p_p d F = []:=⟨if_neg J,if_neg J,if_neg J,if_neg J,if_neg J⟩
  rw [O.1,O.2.1,O.2.2.1] at cN;rw [O.2.1,O.2.2.2.1,O.2.2.2.2];clear O hK J hd h1 hM;go_enter Tryz.func129,Tryz.ntmps129;go_wp2_with fail
  generalize L:World.alloc _ _=W0;have B0:Below w.heap.size w W0:=by rw [<- L];exact a_b w _
  have XR:Hid (Cel W0 w.heap.size (.slice none 0 0) (.slice none 0 0)):=a_F L (by simp [go_sem]);have ac:Hid (Below w.heap.size w W0):=B0;clear L B0;refine (cN W0 ac.out).mono ?_;rintro e w1 ⟨v1,rfl,⟨s1,t1,rfl,ab,I⟩,R⟩;obtain ⟨U,n1,c1,rfl,_⟩:=ab.nums.lst;obtain ⟨p2,n2,c2,rfl,_⟩:=I.nums.lst;have xr:Cel (w1.alloc (.cells #[.slice U n1 c1,.slice p2 n2 c2] 77)) w.heap.size (.slice none 0 0) (.slice none 0 0):=(XR.out.up R).up (a_b w1 _);have BF:=a_j (a_c (a_c ac.out R) (a_b w1 (.cells #[.slice U n1 c1,.slice p2 n2 c2] 77))) w.heap.size (Nat.le_refl _) (.slice none 0 0) (.slice none 0 0);have cf:=xr.set (.slice none 0 0) (.slice none 0 0);obtain ⟨r0,r1,r2,r3⟩:=xr;obtain ⟨y0,y1,_,_⟩:=cf;go_wp2;exact bodyPost_ret (v:=.tuple #[.agg #[.slice none 0 0,.slice none 0 0],.int .i64 2]) (by simp [results,Tryz.results129,go_sem,y0,y1]) rfl ⟨_,rfl,TRes.none _ _,BF⟩
/-- What such a function value reads: the sums' slice in gb, two tensors' numbers by way of ga and gk; the sums lie in b. -/
def Mt (W:World) (b gb ga gk N:Nat) (pa:Option Addr) (na ca:Nat) (pk:Option Addr) (nk ck:Nat) (x y:List Int):Prop:=
 W.cell? ⟨gb,0,none⟩=some (.slice (some ⟨b,0,none⟩) N N)/\W.cell? ⟨ga,1,none⟩=some (.slice pa na ca)/\W.cell? ⟨gk,1,none⟩=some (.slice pk nk ck)/\Nums .i64 W (.slice pa na ca) x/\Nums .i64 W (.slice pk nk ck) y/\(gb≠b/\ga≠b/\gk≠b)/\Off b (.slice pa na ca)/\Off b (.slice pk nk ck)
theorem Mt.up {W W':World} {b H E gk N:Nat} {R:Option Addr} {L I:Nat} {O:Option Addr} {J M:Nat} {x y:List Int} (h:Mt W b H E gk N R L I O J M x y) (D:Below W.heap.size W W'):Mt W' b H E gk N R L I O J M x y:=
 ⟨a_d h.1 D,a_d h.2.1 D,a_d h.2.2.1 D,h.2.2.2.1.up D,h.2.2.2.2.1.up D,h.2.2.2.2.2⟩
theorem Mt.stay {W W':World} {b H E gk N:Nat} {R:Option Addr} {L I:Nat} {O:Option Addr} {J M:Nat} {x y:List Int} (h:Mt W b H E gk N R L I O J M x y) (D:Stay b W W'):Mt W' b H E gk N R L I O J M x y:=
 ⟨D.cell h.1 h.2.2.2.2.2.1.1,D.cell h.2.1 h.2.2.2.2.2.1.2.1,D.cell h.2.2.1 h.2.2.2.2.2.1.2.2,h.2.2.2.1.stay D h.2.2.2.2.2.2.1,h.2.2.2.2.1.stay D h.2.2.2.2.2.2.2,h.2.2.2.2.2⟩
/-- Sums that have met q. -/
def Sms (W:World) (b N q:Nat) (f:Nat->Int):Prop:=∀ i,i < N->SumAt W b (i*4) q (f i)
theorem Sms.up {W W':World} {b N q:Nat} {f:Nat->Int} (h:Sms W b N q f) (D:Below W.heap.size W W'):Sms W' b N q f:=fun i E=>(h i E).up D
theorem Sms.add {W W':World} {b N q j:Nat} {f E:Nat->Int} {Z:Int} (h:Sms W b N q f) (I:Near b (j*4) W W') (H:SumAt W' b (j*4) (q+1) (f j+Z)) (hf:∀ i,i < N->E i=if j=i then f i+Z else f i):Sms W' b N (q+1) E:=fun i D=>by
 rw [hf i D];by_cases e:j=i
 ·subst e;rw [if_pos rfl];exact H
 ·rw [if_neg e];exact ((h i D).near I (by omega)).more (by omega)
theorem m_o (b gb ga gk N m H I D:Nat) (T:Int) (pa:Option Addr) (V ca:Nat) (pk:Option Addr) (nk ck:Nat) (x y:List Int) (hx:RI x) (hy:RI y) (hm:m<=1073741824) (hN:N<=4096) (hs:D < N) (ha:H < x.length) (hk:I < y.length) (aa:x.length<=4096) (ab:y.length<=4096) (w:World) (hM:Mt w b gb ga gk N pa V ca pk nk ck x y) (hS:Hid (SumAt w b (D*4) m T)):
  Calls Tryz.prog 145 #[.int .i64 (H:Int),.int .i64 (I:Int),.int .i64 (D:Int),.pointer (some ⟨gb,0,none⟩),.pointer (some ⟨ga,0,none⟩),.pointer (some ⟨gk,0,none⟩)] w fun e L=>e = .returned (.tuple #[])/\SumAt L b (D*4) (m+1) (T+x.getD H 0*y.getD I 0)/\Near b (D*4) w L:=by
 obtain ⟨c0,c1,c2,J,R,_,_,_⟩:=hM;obtain ⟨_,_,_,e4,U⟩:=J.lst;cases e4;obtain ⟨_,_,_,e4,HY⟩:=R.lst;cases e4;have lx:=U.out.1;have ly:=HY.out.1;obtain ⟨q1,o1,rfl,d1⟩:=U.out.2 H (by omega);obtain ⟨q2,o2,rfl,d2⟩:=HY.out.2 I (by omega);have rX:=b_H hx H;have rY:=b_H hy I;obtain ⟨X,eX⟩:∃ X,x.getD H 0=X:=⟨_,rfl⟩
 obtain ⟨Y,eY⟩:∃ Y,y.getD I 0=Y:=⟨_,rfl⟩
 rw [eX] at rX d1 ⊢;rw [eY] at rY d2 ⊢;have cA:Hid (∀ W,Below w.heap.size w W->Calls Tryz.prog 133 #[.pointer (some ⟨b,D*4,none⟩),.int .i64 X,.int .i64 Y] W fun e L=>e = .returned (.tuple #[])/\SumAt L b (D*4) (m+1) (T+X*Y)/\Near b (D*4) W L):=fun W hW=>g_X b (D*4) m T X Y hm rX rY W (hS.out.up hW);have ae:(D:Int) < (N:Int)/\(N:Int)<=4096:=by omega
 have ad:(H:Int) < (V:Int)/\(V:Int)<=4096:=by omega
 have ac:(I:Int) < (nk:Int)/\(nk:Int)<=4096:=by omega
 have l0:=a_a c0;have l1:=a_a c1;have l2:=a_a c2;have l3:=a_a d1;have l4:=a_a d2;have l5:Hid (b < w.heap.size):=hS.out.lt;clear J R U HY lx ly rX rY eX eY hx hy hs ha hk aa ab hm hN hS;haveI:Nonempty World:=⟨w⟩
 go_enter Tryz.func145,Tryz.ntmps145;go_wp2_with fail
 refine j_B 13 23 (by kernel_rfl) rfl rfl (by kernel_rfl) ?_;apply Exists.intro;refine ⟨?_,?_⟩
 ·intro F hF;have hFc:=hF.cell;have hFf:=hF.frozen;simp only [List.take_succ_cons,List.take_zero,List.eraseIdx_cons_succ,List.eraseIdx_cons_zero]
  repeat (go_big_quiet_step (fail))
  refine wpQuiet_nil ?_;exact rfl
 ·intro W1 E;simp only [List.drop_succ_cons,List.drop_zero];clear c0 c1 c2 d1 d2 l0 l1 l2 l3 l4;go_wp2_with fail
  refine (cA.out W1 E).mono ?_;rintro e w2 ⟨rfl,M,O⟩;have HE:Hid (SumAt w2 b (D*4) (m+1) (T+X*Y)/\Near b (D*4) w w2):=⟨M,(Near.of E l5.out).trans O⟩
  clear M O E cA;go_wp2
  go_end0
  exact ⟨rfl,HE.out⟩
theorem m_p (b gb ga gk N m D I E:Nat) (T:Int) (pa:Option Addr) (V ca:Nat) (pk:Option Addr) (nk ck:Nat) (x y:List Int) (hx:RI x) (hy:RI y) (hm:m<=1073741824) (hN:N<=4096) (hs:D < N) (ha:E < x.length) (hk:I < y.length) (aa:x.length<=4096) (ab:y.length<=4096) (w:World) (hM:Mt w b gb ga gk N pa V ca pk nk ck x y) (hS:Hid (SumAt w b (D*4) m T)):
  Calls Tryz.prog 132 #[.int .i64 (D:Int),.int .i64 (I:Int),.int .i64 (E:Int),.pointer (some ⟨gb,0,none⟩),.pointer (some ⟨ga,0,none⟩),.pointer (some ⟨gk,0,none⟩)] w fun e L=>e = .returned (.tuple #[])/\SumAt L b (D*4) (m+1) (T+x.getD E 0*y.getD I 0)/\Near b (D*4) w L:=by
 obtain ⟨c0,c1,c2,J,R,_,_,_⟩:=hM;obtain ⟨_,_,_,e4,U⟩:=J.lst;cases e4;obtain ⟨_,_,_,e4,HY⟩:=R.lst;cases e4;have lx:=U.out.1;have ly:=HY.out.1;obtain ⟨q1,o1,rfl,d1⟩:=U.out.2 E (by omega);obtain ⟨q2,o2,rfl,d2⟩:=HY.out.2 I (by omega);have rX:=b_H hx E;have rY:=b_H hy I;obtain ⟨X,eX⟩:∃ X,x.getD E 0=X:=⟨_,rfl⟩
 obtain ⟨Y,eY⟩:∃ Y,y.getD I 0=Y:=⟨_,rfl⟩
 rw [eX] at rX d1 ⊢;rw [eY] at rY d2 ⊢;have cA:Hid (∀ W,Below w.heap.size w W->Calls Tryz.prog 133 #[.pointer (some ⟨b,D*4,none⟩),.int .i64 X,.int .i64 Y] W fun e L=>e = .returned (.tuple #[])/\SumAt L b (D*4) (m+1) (T+X*Y)/\Near b (D*4) W L):=fun W hW=>g_X b (D*4) m T X Y hm rX rY W (hS.out.up hW);have ae:(D:Int) < (N:Int)/\(N:Int)<=4096:=by omega
 have ad:(E:Int) < (V:Int)/\(V:Int)<=4096:=by omega
 have ac:(I:Int) < (nk:Int)/\(nk:Int)<=4096:=by omega
 have l0:=a_a c0;have l1:=a_a c1;have l2:=a_a c2;have l3:=a_a d1;have l4:=a_a d2;have l5:Hid (b < w.heap.size):=hS.out.lt;clear J R U HY lx ly rX rY eX eY hx hy hs ha hk aa ab hm hN hS;haveI:Nonempty World:=⟨w⟩
 go_enter Tryz.func132,Tryz.ntmps132;go_wp2_with fail
 refine j_B 13 23 (by kernel_rfl) rfl rfl (by kernel_rfl) ?_;apply Exists.intro;refine ⟨?_,?_⟩
 ·intro F hF;have hFc:=hF.cell;have hFf:=hF.frozen;simp only [List.take_succ_cons,List.take_zero,List.eraseIdx_cons_succ,List.eraseIdx_cons_zero]
  repeat (go_big_quiet_step (fail))
  refine wpQuiet_nil ?_;exact rfl
 ·intro W1 H;simp only [List.drop_succ_cons,List.drop_zero];clear c0 c1 c2 d1 d2 l0 l1 l2 l3 l4;go_wp2_with fail
  refine (cA.out W1 H).mono ?_;rintro e w2 ⟨rfl,M,O⟩;have HE:Hid (SumAt w2 b (D*4) (m+1) (T+X*Y)/\Near b (D*4) w w2):=⟨M,(Near.of H l5.out).trans O⟩
  clear M O H cA;go_wp2
  go_end0
  exact ⟨rfl,HE.out⟩
theorem m_q (b gb ga gk N m I D E:Nat) (T:Int) (pa:Option Addr) (V ca:Nat) (pk:Option Addr) (nk ck:Nat) (x y:List Int) (hx:RI x) (hy:RI y) (hm:m<=1073741824) (hN:N<=4096) (hs:D < N) (ha:E < x.length) (hk:I < y.length) (aa:x.length<=4096) (ab:y.length<=4096) (w:World) (hM:Mt w b gb ga gk N pa V ca pk nk ck x y) (hS:Hid (SumAt w b (D*4) m T)):
  Calls Tryz.prog 135 #[.int .i64 (I:Int),.int .i64 (D:Int),.int .i64 (E:Int),.pointer (some ⟨gb,0,none⟩),.pointer (some ⟨ga,0,none⟩),.pointer (some ⟨gk,0,none⟩)] w fun e L=>e = .returned (.tuple #[])/\SumAt L b (D*4) (m+1) (T+x.getD E 0*y.getD I 0)/\Near b (D*4) w L:=by
 obtain ⟨c0,c1,c2,J,R,_,_,_⟩:=hM;obtain ⟨_,_,_,e4,U⟩:=J.lst;cases e4;obtain ⟨_,_,_,e4,HY⟩:=R.lst;cases e4;have lx:=U.out.1;have ly:=HY.out.1;obtain ⟨q1,o1,rfl,d1⟩:=U.out.2 E (by omega);obtain ⟨q2,o2,rfl,d2⟩:=HY.out.2 I (by omega);have rX:=b_H hx E;have rY:=b_H hy I;obtain ⟨X,eX⟩:∃ X,x.getD E 0=X:=⟨_,rfl⟩
 obtain ⟨Y,eY⟩:∃ Y,y.getD I 0=Y:=⟨_,rfl⟩
 rw [eX] at rX d1 ⊢;rw [eY] at rY d2 ⊢;have cA:Hid (∀ W,Below w.heap.size w W->Calls Tryz.prog 133 #[.pointer (some ⟨b,D*4,none⟩),.int .i64 X,.int .i64 Y] W fun e L=>e = .returned (.tuple #[])/\SumAt L b (D*4) (m+1) (T+X*Y)/\Near b (D*4) W L):=fun W hW=>g_X b (D*4) m T X Y hm rX rY W (hS.out.up hW);have ae:(D:Int) < (N:Int)/\(N:Int)<=4096:=by omega
 have ad:(E:Int) < (V:Int)/\(V:Int)<=4096:=by omega
 have ac:(I:Int) < (nk:Int)/\(nk:Int)<=4096:=by omega
 have l0:=a_a c0;have l1:=a_a c1;have l2:=a_a c2;have l3:=a_a d1;have l4:=a_a d2;have l5:Hid (b < w.heap.size):=hS.out.lt;clear J R U HY lx ly rX rY eX eY hx hy hs ha hk aa ab hm hN hS;haveI:Nonempty World:=⟨w⟩
 go_enter Tryz.func135,Tryz.ntmps135;go_wp2_with fail
 refine j_B 13 23 (by kernel_rfl) rfl rfl (by kernel_rfl) ?_;apply Exists.intro;refine ⟨?_,?_⟩
 ·intro F hF;have hFc:=hF.cell;have hFf:=hF.frozen;simp only [List.take_succ_cons,List.take_zero,List.eraseIdx_cons_succ,List.eraseIdx_cons_zero]
  repeat (go_big_quiet_step (fail))
  refine wpQuiet_nil ?_;exact rfl
 ·intro W1 H;simp only [List.drop_succ_cons,List.drop_zero];clear c0 c1 c2 d1 d2 l0 l1 l2 l3 l4;go_wp2_with fail
  refine (cA.out W1 H).mono ?_;rintro e w2 ⟨rfl,M,O⟩;have HE:Hid (SumAt w2 b (D*4) (m+1) (T+X*Y)/\Near b (D*4) w w2):=⟨M,(Near.of H l5.out).trans O⟩
  clear M O H cA;go_wp2
  go_end0
  exact ⟨rfl,HE.out⟩
theorem i_L (R L O wd st S:Nat) (hS:a_M L wd st=S) (h1:wd<=L) (h2:L<=4096) (h3:1<=st) (h4:st<=64) (h5:O*R*wd<=4096) (h6:O*S<=4096) (h7:R*L<=4096) (h8:O<=4096) (h9:R<=4096) (b gs M gk:Nat) (pa:Option Addr) (na V:Nat) (pk:Option Addr) (nk ck:Nat) (x y:List Int) (hx:RI x) (hy:RI y) (ah:x.length=R*L) (am:y.length=O*R*wd) (w:World)
  (hs:SlC w gs R L O wd st) (aa:w.cell? ⟨M,1,none⟩=some (.slice pa na V)) (af:w.cell? ⟨gk,1,none⟩=some (.slice pk nk ck)) (nx:Nums .i64 w (.slice pa na V) x) (ny:Nums .i64 w (.slice pk nk ck) y) (ad:M≠b/\gk≠b) (fx:Off b (.slice pa na V)) (fy:Off b (.slice pk nk ck)) (hb:b < w.heap.size) (h0:Sms w b (O*S) 0 (fun _=>0)):
  Calls Tryz.prog 144 #[.slice (some ⟨b,0,none⟩) (O*S) (O*S),.pointer (some ⟨gs,0,none⟩),.pointer (some ⟨M,0,none⟩),.pointer (some ⟨gk,0,none⟩)] w fun e E=>e = .returned (.tuple #[])/\Sms E b (O*S) (O*R*S*wd) (fun i=>b_0 (n_A L R S wd st x y i) R S wd (O*R*S*wd))/\Stay b w E/\Below b w E:=by
 have ai:O*R*S*wd<=1073741824:=by
  have q1:S<=4097:=by rw [<- hS];unfold a_M;have:=Nat.div_le_self (L - wd) st;omega
  have q2:O*R*S*wd=O*R*wd*S:=by rw [Nat.mul_assoc,Nat.mul_comm S wd,<- Nat.mul_assoc]
  rw [q2];exact Nat.le_trans (Nat.mul_le_mul h5 q1) (by decide)
 have ae:∀ n,n < S->n*st+wd<=L:=fun n hn=>by
  unfold a_M at hS;have:n<=(L - wd) / st:=by omega
  have:=(Nat.le_div_iff_mul_le (by omega)).1 this;omega
 have aw:∀ (fn:Fn) (first ab:Array Value) (w:World),(Instr.makeFunc fn first ab).run Tryz.prog w = .ok (.func fn first ab) w:=fun _ _ _ _=>rfl;obtain ⟨z0,z1,z2,z3,z4⟩:=hs;have zl:=a_a z0
 have HE:Hid (∀ U I,I=w.alloc (.cells #[.slice (some ⟨b,0,none⟩) (O*S) (O*S)] 197)->U=w.heap.size->Calls Tryz.prog 131 #[.agg #[.int .i64 (R:Int),.int .i64 (L:Int),.int .i64 (O:Int),.int .i64 (wd:Int),.int .i64 (st:Int)],.func (.func 145) #[] #[.pointer (some ⟨U,0,none⟩),.pointer (some ⟨M,0,none⟩),.pointer (some ⟨gk,0,none⟩)]] I fun e E=>e = .returned (.tuple #[])/\(Sms E b (O*S) (O*R*S*wd) (fun i=>b_0 (n_A L R S wd st x y i) R S wd (O*R*S*wd))/\Mt E b U M gk (O*S) pa na V pk nk ck x y)/\Stay b I E/\Below b I E):=fun U I eW an=>by
  have D:Below w.heap.size w I:=by rw [eW];exact a_b w _
  have ao:I.cell? ⟨U,0,none⟩=some (.slice (some ⟨b,0,none⟩) (O*S) (O*S)):=by rw [eW,an];simp [go_sem]
  refine f_G _ (fun args W=>by simp [go_sem]) _ _ _ b R L O wd st S hS h1 h2 h3 h4 h5 h6 h7 h8 h9 (fun q W=>Sms W b (O*S) q (fun i=>b_0 (n_A L R S wd st x y i) R S wd q)/\Mt W b U M gk (O*S) pa na V pk nk ck x y) (fun q W W' h D=>⟨h.1.up D,h.2.up D⟩) ?_ I (Nat.lt_of_lt_of_le hb D.size) ⟨h0.up D,ao,a_d aa D,a_d af D,nx.up D,ny.up D,⟨by omega,ad⟩,fx,fy⟩;intro o c n y' ho hc hn J W hI
  have aq:c*L+n*st+y' < R*L:=by
   have q1:=ae n hn;have q2:(c+1)*L<=R*L:=Nat.mul_le_mul_right L hc;rw [Nat.add_mul,Nat.one_mul] at q2;omega
  have au:(o*R+c)*wd+y' < O*R*wd:=a_0 (a_0 ho hc) J;have ag:o*S+n < O*S:=a_0 ho hn
  have hq:((o*R+c)*S+n)*wd+y'<=1073741824:=by
   have:=a_0 (a_0 (a_0 ho hc) hn) J;omega
  refine (m_o b U M gk (O*S) (((o*R+c)*S+n)*wd+y') _ _ _ _ pa na V pk nk ck x y hx hy hq (by omega) ag (by rw [ah];exact aq) (by rw [am];exact au) (by omega) (by omega) W hI.2 (hI.1 _ ag)).mono ?_;rintro e E ⟨e1,av,H⟩;refine ⟨e1,⟨hI.1.add H av ?_,hI.2.stay H.stay⟩,H.stay,H.below⟩;intro i hi;show b_0 _ R S wd _=_;rw [e_C _ hc hn J];unfold n_A;by_cases e:o*S+n=i
  ·rw [if_pos e,if_pos e]
  ·rw [if_neg e,if_neg e,Int.add_zero]
 have ap:Hid (b < w.heap.size):=hb;clear h0 aa af nx ny fx fy hx hy ah am ai ae hS h5 h6 h7 hb ad;haveI:Nonempty World:=⟨w⟩
 obtain ⟨NN,ar⟩:∃ n,O*S=n:=⟨_,rfl⟩
 rw [ar] at HE ⊢;go_enter Tryz.func144,Tryz.ntmps144;go_wp2_with fail
 refine (HE.out _ _ rfl rfl).mono ?_;rintro e w1 ⟨rfl,⟨ak,_⟩,ac,aj⟩;have hU:=a_b w (.cells #[.slice (some ⟨b,0,none⟩) NN NN] 197);have HF:Hid (Sms w1 b NN (O*R*S*wd) (fun i=>b_0 (n_A L R S wd st x y i) R S wd (O*R*S*wd))/\Stay b w w1/\Below b w w1):=⟨ak,(Stay.of hU).trans ac,(hU.mono (Nat.le_of_lt ap.out)).trans aj⟩
 clear ak ac aj hU;go_wp2
 go_end0
 exact ⟨rfl,HF.out⟩
theorem i_M (R L O wd st S:Nat) (hS:a_M L wd st=S) (h1:wd<=L) (h2:L<=4096) (h3:1<=st) (h4:st<=64) (h5:O*R*wd<=4096) (h6:O*S<=4096) (h7:R*L<=4096) (h8:O<=4096) (h9:R<=4096) (b gs M gk:Nat) (pa:Option Addr) (na V:Nat) (pk:Option Addr) (nk ck:Nat) (x y:List Int) (hx:RI x) (hy:RI y) (ag:x.length=O*S) (am:y.length=O*R*wd) (w:World)
  (hs:SlC w gs R L O wd st) (aa:w.cell? ⟨M,1,none⟩=some (.slice pa na V)) (af:w.cell? ⟨gk,1,none⟩=some (.slice pk nk ck)) (nx:Nums .i64 w (.slice pa na V) x) (ny:Nums .i64 w (.slice pk nk ck) y) (ad:M≠b/\gk≠b) (fx:Off b (.slice pa na V)) (fy:Off b (.slice pk nk ck)) (hb:b < w.heap.size) (h0:Sms w b (R*L) 0 (fun _=>0)):
  Calls Tryz.prog 130 #[.slice (some ⟨b,0,none⟩) (R*L) (R*L),.pointer (some ⟨gs,0,none⟩),.pointer (some ⟨M,0,none⟩),.pointer (some ⟨gk,0,none⟩)] w fun e E=>e = .returned (.tuple #[])/\Sms E b (R*L) (O*R*S*wd) (fun i=>b_0 (inT L R S wd st x y i) R S wd (O*R*S*wd))/\Stay b w E/\Below b w E:=by
 have ah:O*R*S*wd<=1073741824:=by
  have q1:S<=4097:=by rw [<- hS];unfold a_M;have:=Nat.div_le_self (L - wd) st;omega
  have q2:O*R*S*wd=O*R*wd*S:=by rw [Nat.mul_assoc,Nat.mul_comm S wd,<- Nat.mul_assoc]
  rw [q2];exact Nat.le_trans (Nat.mul_le_mul h5 q1) (by decide)
 have ae:∀ n,n < S->n*st+wd<=L:=fun n hn=>by
  unfold a_M at hS;have:n<=(L - wd) / st:=by omega
  have:=(Nat.le_div_iff_mul_le (by omega)).1 this;omega
 have aw:∀ (fn:Fn) (first ab:Array Value) (w:World),(Instr.makeFunc fn first ab).run Tryz.prog w = .ok (.func fn first ab) w:=fun _ _ _ _=>rfl;obtain ⟨z0,z1,z2,z3,z4⟩:=hs;have zl:=a_a z0
 have HE:Hid (∀ U I,I=w.alloc (.cells #[.slice (some ⟨b,0,none⟩) (R*L) (R*L)] 197)->U=w.heap.size->Calls Tryz.prog 131 #[.agg #[.int .i64 (R:Int),.int .i64 (L:Int),.int .i64 (O:Int),.int .i64 (wd:Int),.int .i64 (st:Int)],.func (.func 132) #[] #[.pointer (some ⟨U,0,none⟩),.pointer (some ⟨M,0,none⟩),.pointer (some ⟨gk,0,none⟩)]] I fun e E=>e = .returned (.tuple #[])/\(Sms E b (R*L) (O*R*S*wd) (fun i=>b_0 (inT L R S wd st x y i) R S wd (O*R*S*wd))/\Mt E b U M gk (R*L) pa na V pk nk ck x y)/\Stay b I E/\Below b I E):=fun U I eW an=>by
  have D:Below w.heap.size w I:=by rw [eW];exact a_b w _
  have ao:I.cell? ⟨U,0,none⟩=some (.slice (some ⟨b,0,none⟩) (R*L) (R*L)):=by rw [eW,an];simp [go_sem]
  refine f_G _ (fun args W=>by simp [go_sem]) _ _ _ b R L O wd st S hS h1 h2 h3 h4 h5 h6 h7 h8 h9 (fun q W=>Sms W b (R*L) q (fun i=>b_0 (inT L R S wd st x y i) R S wd q)/\Mt W b U M gk (R*L) pa na V pk nk ck x y) (fun q W W' h D=>⟨h.1.up D,h.2.up D⟩) ?_ I (Nat.lt_of_lt_of_le hb D.size) ⟨h0.up D,ao,a_d aa D,a_d af D,nx.up D,ny.up D,⟨by omega,ad⟩,fx,fy⟩;intro o c n y' ho hc hn J W hI
  have ai:c*L+n*st+y' < R*L:=by
   have q1:=ae n hn;have q2:(c+1)*L<=R*L:=Nat.mul_le_mul_right L hc;rw [Nat.add_mul,Nat.one_mul] at q2;omega
  have au:(o*R+c)*wd+y' < O*R*wd:=a_0 (a_0 ho hc) J;have ap:o*S+n < O*S:=a_0 ho hn
  have hq:((o*R+c)*S+n)*wd+y'<=1073741824:=by
   have:=a_0 (a_0 (a_0 ho hc) hn) J;omega
  refine (m_p b U M gk (R*L) (((o*R+c)*S+n)*wd+y') _ _ _ _ pa na V pk nk ck x y hx hy hq (by omega) ai (by rw [ag];exact ap) (by rw [am];exact au) (by omega) (by omega) W hI.2 (hI.1 _ ai)).mono ?_;rintro e E ⟨e1,av,H⟩;refine ⟨e1,⟨hI.1.add H av ?_,hI.2.stay H.stay⟩,H.stay,H.below⟩;intro i hi;show b_0 _ R S wd _=_;rw [e_C _ hc hn J];unfold inT;by_cases e:c*L+n*st+y'=i
  ·rw [if_pos e,if_pos e]
  ·rw [if_neg e,if_neg e,Int.add_zero]
 have aq:Hid (b < w.heap.size):=hb;clear h0 aa af nx ny fx fy hx hy ag am ah ae hS h5 h6 h7 hb ad;haveI:Nonempty World:=⟨w⟩
 obtain ⟨NN,ar⟩:∃ n,R*L=n:=⟨_,rfl⟩
 rw [ar] at HE ⊢;go_enter Tryz.func130,Tryz.ntmps130;go_wp2_with fail
 refine (HE.out _ _ rfl rfl).mono ?_;rintro e w1 ⟨rfl,⟨ak,_⟩,ac,aj⟩;have hU:=a_b w (.cells #[.slice (some ⟨b,0,none⟩) NN NN] 197);have HF:Hid (Sms w1 b NN (O*R*S*wd) (fun i=>b_0 (inT L R S wd st x y i) R S wd (O*R*S*wd))/\Stay b w w1/\Below b w w1):=⟨ak,(Stay.of hU).trans ac,(hU.mono (Nat.le_of_lt aq.out)).trans aj⟩
 clear ak ac aj hU;go_wp2
 go_end0
 exact ⟨rfl,HF.out⟩
theorem i_N (R L O wd st S:Nat) (hS:a_M L wd st=S) (h1:wd<=L) (h2:L<=4096) (h3:1<=st) (h4:st<=64) (h5:O*R*wd<=4096) (h6:O*S<=4096) (h7:R*L<=4096) (h8:O<=4096) (h9:R<=4096) (b gs M gk:Nat) (pa:Option Addr) (na V:Nat) (pk:Option Addr) (nk ck:Nat) (x y:List Int) (hx:RI x) (hy:RI y) (ag:x.length=O*S) (ak:y.length=R*L) (w:World)
  (hs:SlC w gs R L O wd st) (aa:w.cell? ⟨M,1,none⟩=some (.slice pa na V)) (af:w.cell? ⟨gk,1,none⟩=some (.slice pk nk ck)) (nx:Nums .i64 w (.slice pa na V) x) (ny:Nums .i64 w (.slice pk nk ck) y) (ad:M≠b/\gk≠b) (fx:Off b (.slice pa na V)) (fy:Off b (.slice pk nk ck)) (hb:b < w.heap.size) (h0:Sms w b (O*R*wd) 0 (fun _=>0)):
  Calls Tryz.prog 134 #[.slice (some ⟨b,0,none⟩) (O*R*wd) (O*R*wd),.pointer (some ⟨gs,0,none⟩),.pointer (some ⟨M,0,none⟩),.pointer (some ⟨gk,0,none⟩)] w fun e E=>e = .returned (.tuple #[])/\Sms E b (O*R*wd) (O*R*S*wd) (fun i=>b_0 (m_l L R S wd st x y i) R S wd (O*R*S*wd))/\Stay b w E/\Below b w E:=by
 have ah:O*R*S*wd<=1073741824:=by
  have q1:S<=4097:=by rw [<- hS];unfold a_M;have:=Nat.div_le_self (L - wd) st;omega
  have q2:O*R*S*wd=O*R*wd*S:=by rw [Nat.mul_assoc,Nat.mul_comm S wd,<- Nat.mul_assoc]
  rw [q2];exact Nat.le_trans (Nat.mul_le_mul h5 q1) (by decide)
 have ae:∀ n,n < S->n*st+wd<=L:=fun n hn=>by
  unfold a_M at hS;have:n<=(L - wd) / st:=by omega
  have:=(Nat.le_div_iff_mul_le (by omega)).1 this;omega
 have aw:∀ (fn:Fn) (first ab:Array Value) (w:World),(Instr.makeFunc fn first ab).run Tryz.prog w = .ok (.func fn first ab) w:=fun _ _ _ _=>rfl;obtain ⟨z0,z1,z2,z3,z4⟩:=hs;have zl:=a_a z0
 have HE:Hid (∀ U I,I=w.alloc (.cells #[.slice (some ⟨b,0,none⟩) (O*R*wd) (O*R*wd)] 197)->U=w.heap.size->Calls Tryz.prog 131 #[.agg #[.int .i64 (R:Int),.int .i64 (L:Int),.int .i64 (O:Int),.int .i64 (wd:Int),.int .i64 (st:Int)],.func (.func 135) #[] #[.pointer (some ⟨U,0,none⟩),.pointer (some ⟨M,0,none⟩),.pointer (some ⟨gk,0,none⟩)]] I fun e E=>e = .returned (.tuple #[])/\(Sms E b (O*R*wd) (O*R*S*wd) (fun i=>b_0 (m_l L R S wd st x y i) R S wd (O*R*S*wd))/\Mt E b U M gk (O*R*wd) pa na V pk nk ck x y)/\Stay b I E/\Below b I E):=fun U I eW an=>by
  have D:Below w.heap.size w I:=by rw [eW];exact a_b w _
  have ao:I.cell? ⟨U,0,none⟩=some (.slice (some ⟨b,0,none⟩) (O*R*wd) (O*R*wd)):=by rw [eW,an];simp [go_sem]
  refine f_G _ (fun args W=>by simp [go_sem]) _ _ _ b R L O wd st S hS h1 h2 h3 h4 h5 h6 h7 h8 h9 (fun q W=>Sms W b (O*R*wd) q (fun i=>b_0 (m_l L R S wd st x y i) R S wd q)/\Mt W b U M gk (O*R*wd) pa na V pk nk ck x y) (fun q W W' h D=>⟨h.1.up D,h.2.up D⟩) ?_ I (Nat.lt_of_lt_of_le hb D.size) ⟨h0.up D,ao,a_d aa D,a_d af D,nx.up D,ny.up D,⟨by omega,ad⟩,fx,fy⟩;intro o c n y' ho hc hn J W hI
  have ar:c*L+n*st+y' < R*L:=by
   have q1:=ae n hn;have q2:(c+1)*L<=R*L:=Nat.mul_le_mul_right L hc;rw [Nat.add_mul,Nat.one_mul] at q2;omega
  have am:(o*R+c)*wd+y' < O*R*wd:=a_0 (a_0 ho hc) J;have ap:o*S+n < O*S:=a_0 ho hn
  have hq:((o*R+c)*S+n)*wd+y'<=1073741824:=by
   have:=a_0 (a_0 (a_0 ho hc) hn) J;omega
  refine (m_q b U M gk (O*R*wd) (((o*R+c)*S+n)*wd+y') _ _ _ _ pa na V pk nk ck x y hx hy hq (by omega) am (by rw [ag];exact ap) (by rw [ak];exact ar) (by omega) (by omega) W hI.2 (hI.1 _ am)).mono ?_;rintro e E ⟨e1,av,H⟩;refine ⟨e1,⟨hI.1.add H av ?_,hI.2.stay H.stay⟩,H.stay,H.below⟩;intro i hi;show b_0 _ R S wd _=_;rw [e_C _ hc hn J];unfold m_l;by_cases e:(o*R+c)*wd+y'=i
  ·rw [if_pos e,if_pos e]
  ·rw [if_neg e,if_neg e,Int.add_zero]
 have aq:Hid (b < w.heap.size):=hb;clear h0 aa af nx ny fx fy hx hy ag ak ah ae hS h5 h6 h7 hb ad;haveI:Nonempty World:=⟨w⟩
 obtain ⟨NN,au⟩:∃ n,O*R*wd=n:=⟨_,rfl⟩
 rw [au] at HE ⊢;go_enter Tryz.func134,Tryz.ntmps134;go_wp2_with fail
 refine (HE.out _ _ rfl rfl).mono ?_;rintro e w1 ⟨rfl,⟨aj,_⟩,ac,ai⟩;have hU:=a_b w (.cells #[.slice (some ⟨b,0,none⟩) NN NN] 197);have HF:Hid (Sms w1 b NN (O*R*S*wd) (fun i=>b_0 (m_l L R S wd st x y i) R S wd (O*R*S*wd))/\Stay b w w1/\Below b w w1):=⟨aj,(Stay.of hU).trans ac,(hU.mono (Nat.le_of_lt aq.out)).trans ai⟩
 clear aj ac ai hU;go_wp2
 go_end0
 exact ⟨rfl,HF.out⟩
theorem t_a (W:World) (b:Nat) (D I H J E:Value) {y0 y1 M R U:Value} (V:W.cell? ⟨b,0,none⟩=some y0) (h1:W.cell? ⟨b,1,none⟩=some y1) (O:W.cell? ⟨b,2,none⟩=some M) (h3:W.cell? ⟨b,3,none⟩=some R) (L:W.cell? ⟨b,4,none⟩=some U):
  (((((W.setCell ⟨b,0,none⟩ D).setCell ⟨b,1,none⟩ I).setCell ⟨b,2,none⟩ H).setCell ⟨b,3,none⟩ J).setCell ⟨b,4,none⟩ E).cell? ⟨b,0,none⟩=some D/\(((((W.setCell ⟨b,0,none⟩ D).setCell ⟨b,1,none⟩ I).setCell ⟨b,2,none⟩ H).setCell ⟨b,3,none⟩ J).setCell ⟨b,4,none⟩ E).cell? ⟨b,1,none⟩=some I/\(((((W.setCell ⟨b,0,none⟩ D).setCell ⟨b,1,none⟩ I).setCell ⟨b,2,none⟩ H).setCell ⟨b,3,none⟩ J).setCell ⟨b,4,none⟩ E).cell? ⟨b,2,none⟩=some H/\(((((W.setCell ⟨b,0,none⟩ D).setCell ⟨b,1,none⟩ I).setCell ⟨b,2,none⟩ H).setCell ⟨b,3,none⟩ J).setCell ⟨b,4,none⟩ E).cell? ⟨b,3,none⟩=some J/\(((((W.setCell ⟨b,0,none⟩ D).setCell ⟨b,1,none⟩ I).setCell ⟨b,2,none⟩ H).setCell ⟨b,3,none⟩ J).setCell ⟨b,4,none⟩ E).cell? ⟨b,4,none⟩=some E:=by
 refine ⟨?_,?_,?_,?_,?_⟩
 ·rw [a_w (by omega),a_w (by omega),a_w (by omega),a_w (by omega)];exact b_p V
 ·rw [a_w (by omega),a_w (by omega),a_w (by omega)];exact b_p (by rw [a_w (by omega)];exact h1)
 ·rw [a_w (by omega),a_w (by omega)];exact b_p (by rw [a_w (by omega),a_w (by omega)];exact O)
 ·rw [a_w (by omega)];exact b_p (by rw [a_w (by omega),a_w (by omega),a_w (by omega)];exact h3)
 ·exact b_p (by rw [a_w (by omega),a_w (by omega),a_w (by omega),a_w (by omega)];exact L)
theorem f_H {d:List Int} {F G:Nat->Int} {N:Nat} (E:a_e (ntl d)=N) (h:∀ i,i < N->rnd (F i)=G i):p_p d F=if goodN (ntl d) then (List.range N).map G else []:=by
 unfold p_p;by_cases D:goodN (ntl d)
 ·rw [if_pos D,if_pos D,E];refine List.map_congr_left fun i H=>h i ?_;simpa using H
 ·rw [if_neg D,if_neg D]
theorem g_5 {L wd st:Nat} (h:1<=wd) (D:wd<=L):a_M L wd st<=L:=by
 unfold a_M;have:=Nat.div_le_self (L - wd) st;omega
theorem k_M {L wd st n:Nat} (H:wd<=L) (E:1<=st) (D:n < a_M L wd st):n*st+wd<=L:=by
 unfold a_M at D;have:n<=(L - wd) / st:=by omega
 have:=(Nat.le_div_iff_mul_le (by omega)).1 this;omega
theorem g_q {x:List Int} {n:Nat} (h:x.length=n) (D:1<=n):x≠[]:=by
 intro e;rw [e] at h;simp at h;omega
theorem o_t (R L O wd st S:Nat) (hS:a_M L wd st=S) (h0:1<=wd) (h1:wd<=L) (h2:L<=4096) (h3:1<=st) (h4:st<=64) (hR:1<=R) (hO:1<=O) (h5:O*R*wd<=4096) (h7:R*L<=4096) (h8:O<=4096) (h9:R<=4096) (U M gk:Nat) (pa:Option Addr) (na ca:Nat) (pk:Option Addr) (nk ck:Nat) (x y:List Int) (hx:RI x) (hy:RI y) (J:x.length=R*L) (V:y.length=O*R*wd) (p:Option Addr) (n c:Nat) (w:World) (hT:Hid (Tz w)) (hd:Nums .i64 w (.slice p n c) [(O:Int),(S:Int)])
  (hs:SlC w U R L O wd st) (E:w.cell? ⟨M,1,none⟩=some (.slice pa na ca)) (I:w.cell? ⟨gk,1,none⟩=some (.slice pk nk ck)) (nx:Nums .i64 w (.slice pa na ca) x) (ny:Nums .i64 w (.slice pk nk ck) y):
  Calls Tryz.prog 129 #[.slice p n c,.func (.func 144) #[] #[.pointer (some ⟨U,0,none⟩),.pointer (some ⟨M,0,none⟩),.pointer (some ⟨gk,0,none⟩)]] w fun e w'=>∃ v',e = .returned (.tuple #[v',.int .i64 (f_7 [(O:Int),(S:Int)])])/\TRes w' w.heap.size v' (d_Y [(O:Int),(S:Int)]) (if goodN (ntl [(O:Int),(S:Int)]) then h_6 R L wd O S st x y else [])/\Below w.heap.size w w':=by
 have D:S<=4096:=by rw [<- hS];exact Nat.le_trans (g_5 h0 h1) h2
 by_cases hg:goodN (ntl [(O:Int),(S:Int)])
 ·have hG:=s_N.1 hg;have h5:O*R*wd<=4096:=h5;have h6:O*S<=4096:=hG.2.2;have h7:R*L<=4096:=h7
  have hM:O*R*S*wd<=1073741824:=by
   have q2:O*R*S*wd=O*R*wd*S:=by rw [Nat.mul_assoc,Nat.mul_comm S wd,<- Nat.mul_assoc]
   rw [q2];exact Nat.le_trans (Nat.mul_le_mul h5 D) (by decide)
  have:=b_B 144 (fun args W=>by simp [go_sem]) (.pointer (some ⟨U,0,none⟩)) (.pointer (some ⟨M,0,none⟩)) (.pointer (some ⟨gk,0,none⟩)) p n c [(O:Int),(S:Int)] (j_F h8 D) (fun i=>b_0 (n_A L R S wd st x y i) R S wd (O*R*S*wd)) (O*R*S*wd) hM w hT hd (by
   intro _ W b H hb aa hz;rw [c_o] at hz ⊢;have la:=a_a E;have lk:=a_a I;exact i_L R L O wd st S hS h1 h2 h3 h4 h5 h6 h7 h8 h9 b U M gk pa na ca pk nk ck x y hx hy J V W (hs.up H) (a_d E H) (a_d I H) (nx.up H) (ny.up H) ⟨by omega,by omega⟩ (nx.off (g_q J (Nat.mul_le_mul hR (show 1<=L by omega))) hb) (ny.off (g_q V (Nat.mul_le_mul (Nat.mul_le_mul hO hR) h0)) hb) aa hz)
  rw [f_H (G:=m_d R L wd S st x y) (c_o _ _) (fun i hi=>m_k x y hi)] at this;exact this
 ·have:=b_B 144 (fun args W=>by simp [go_sem]) (.pointer (some ⟨U,0,none⟩)) (.pointer (some ⟨M,0,none⟩)) (.pointer (some ⟨gk,0,none⟩)) p n c [(O:Int),(S:Int)] (j_F h8 D) (fun i=>0) 0 (by omega) w hT hd (fun h=>absurd h hg);rw [show p_p [(O:Int),(S:Int)] (fun i=>0) = [] from if_neg hg] at this;rw [if_neg hg];exact this
theorem q_v (R L O wd st S:Nat) (hS:a_M L wd st=S) (h0:1<=wd) (h1:wd<=L) (h2:L<=4096) (h3:1<=st) (h4:st<=64) (hR:1<=R) (hO:1<=O) (V:O*R*wd<=4096) (h6:O*S<=4096) (h8:O<=4096) (h9:R<=4096) (M J gk:Nat) (pa:Option Addr) (na ca:Nat) (pk:Option Addr) (nk ck:Nat) (x y:List Int) (hx:RI x) (hy:RI y) (I:x.length=O*S) (U:y.length=O*R*wd) (p:Option Addr) (n c:Nat) (w:World) (hT:Hid (Tz w)) (hd:Nums .i64 w (.slice p n c) [(R:Int),(L:Int)])
  (hs:SlC w M R L O wd st) (D:w.cell? ⟨J,1,none⟩=some (.slice pa na ca)) (H:w.cell? ⟨gk,1,none⟩=some (.slice pk nk ck)) (nx:Nums .i64 w (.slice pa na ca) x) (ny:Nums .i64 w (.slice pk nk ck) y):
  Calls Tryz.prog 129 #[.slice p n c,.func (.func 130) #[] #[.pointer (some ⟨M,0,none⟩),.pointer (some ⟨J,0,none⟩),.pointer (some ⟨gk,0,none⟩)]] w fun e w'=>∃ v',e = .returned (.tuple #[v',.int .i64 (f_7 [(R:Int),(L:Int)])])/\TRes w' w.heap.size v' (d_Y [(R:Int),(L:Int)]) (if goodN (ntl [(R:Int),(L:Int)]) then h_7 O R S wd st L x y else [])/\Below w.heap.size w w':=by
 have ab:S<=4096:=by rw [<- hS];exact Nat.le_trans (g_5 h0 h1) h2
 by_cases hg:goodN (ntl [(R:Int),(L:Int)])
 ·have hG:=s_N.1 hg;have V:O*R*wd<=4096:=V;have h6:O*S<=4096:=h6;have h7:R*L<=4096:=hG.2.2
  have hM:O*R*S*wd<=1073741824:=by
   have q2:O*R*S*wd=O*R*wd*S:=by rw [Nat.mul_assoc,Nat.mul_comm S wd,<- Nat.mul_assoc]
   rw [q2];exact Nat.le_trans (Nat.mul_le_mul V ab) (by decide)
  have:=b_B 130 (fun args W=>by simp [go_sem]) (.pointer (some ⟨M,0,none⟩)) (.pointer (some ⟨J,0,none⟩)) (.pointer (some ⟨gk,0,none⟩)) p n c [(R:Int),(L:Int)] (j_F h9 h2) (fun i=>b_0 (inT L R S wd st x y i) R S wd (O*R*S*wd)) (O*R*S*wd) hM w hT hd (by
   intro _ W b E hb aa hz;rw [c_o] at hz ⊢;have la:=a_a D;have lk:=a_a H;exact i_M R L O wd st S hS h1 h2 h3 h4 V h6 h7 h8 h9 b M J gk pa na ca pk nk ck x y hx hy I U W (hs.up E) (a_d D E) (a_d H E) (nx.up E) (ny.up E) ⟨by omega,by omega⟩ (nx.off (g_q I (Nat.mul_le_mul hO (show 1<=S by rw [<- hS];exact Nat.le_add_left 1 _))) hb) (ny.off (g_q U (Nat.mul_le_mul (Nat.mul_le_mul hO hR) h0)) hb) aa hz)
  rw [f_H (G:=k_L O R S wd st L x y) (c_o _ _) (fun i hi=>o_s x y hi (fun n hn=>k_M h1 h3 (by rw [hS];exact hn)))] at this;exact this
 ·have:=b_B 130 (fun args W=>by simp [go_sem]) (.pointer (some ⟨M,0,none⟩)) (.pointer (some ⟨J,0,none⟩)) (.pointer (some ⟨gk,0,none⟩)) p n c [(R:Int),(L:Int)] (j_F h9 h2) (fun i=>0) 0 (by omega) w hT hd (fun h=>absurd h hg);rw [show p_p [(R:Int),(L:Int)] (fun i=>0) = [] from if_neg hg] at this;rw [if_neg hg];exact this
theorem o_u (R L O wd st S:Nat) (hS:a_M L wd st=S) (h0:1<=wd) (h1:wd<=L) (V:L<=4096) (h3:1<=st) (h4:st<=64) (hR:1<=R) (hO:1<=O) (h6:O*S<=4096) (h7:R*L<=4096) (h8:O<=4096) (h9:R<=4096) (M J gk:Nat) (pa:Option Addr) (na ca:Nat) (pk:Option Addr) (nk ck:Nat) (x y:List Int) (hx:RI x) (hy:RI y) (I:x.length=O*S) (U:y.length=R*L) (p:Option Addr) (n c:Nat) (w:World) (hT:Hid (Tz w)) (hd:Nums .i64 w (.slice p n c) [(O:Int),(R:Int),(wd:Int)])
  (hs:SlC w M R L O wd st) (D:w.cell? ⟨J,1,none⟩=some (.slice pa na ca)) (H:w.cell? ⟨gk,1,none⟩=some (.slice pk nk ck)) (nx:Nums .i64 w (.slice pa na ca) x) (ny:Nums .i64 w (.slice pk nk ck) y):
  Calls Tryz.prog 129 #[.slice p n c,.func (.func 134) #[] #[.pointer (some ⟨M,0,none⟩),.pointer (some ⟨J,0,none⟩),.pointer (some ⟨gk,0,none⟩)]] w fun e w'=>∃ v',e = .returned (.tuple #[v',.int .i64 (f_7 [(O:Int),(R:Int),(wd:Int)])])/\TRes w' w.heap.size v' (d_Y [(O:Int),(R:Int),(wd:Int)]) (if goodN (ntl [(O:Int),(R:Int),(wd:Int)]) then p_o O R S L wd st x y else [])/\Below w.heap.size w w':=by
 have ab:S<=4096:=by rw [<- hS];exact Nat.le_trans (g_5 h0 h1) V
 by_cases hg:goodN (ntl [(O:Int),(R:Int),(wd:Int)])
 ·have hG:=r_q.1 hg;have h5:O*R*wd<=4096:=hG.2.2.2;have h6:O*S<=4096:=h6;have h7:R*L<=4096:=h7
  have hM:O*R*S*wd<=1073741824:=by
   have q2:O*R*S*wd=O*R*wd*S:=by rw [Nat.mul_assoc,Nat.mul_comm S wd,<- Nat.mul_assoc]
   rw [q2];exact Nat.le_trans (Nat.mul_le_mul h5 ab) (by decide)
  have:=b_B 134 (fun args W=>by simp [go_sem]) (.pointer (some ⟨M,0,none⟩)) (.pointer (some ⟨J,0,none⟩)) (.pointer (some ⟨gk,0,none⟩)) p n c [(O:Int),(R:Int),(wd:Int)] (j_G h8 h9 (Nat.le_trans h1 V)) (fun i=>b_0 (m_l L R S wd st x y i) R S wd (O*R*S*wd)) (O*R*S*wd) hM w hT hd (by
   intro _ W b E hb aa hz;rw [e_w] at hz ⊢;have la:=a_a D;have lk:=a_a H;exact i_N R L O wd st S hS h1 V h3 h4 h5 h6 h7 h8 h9 b M J gk pa na ca pk nk ck x y hx hy I U W (hs.up E) (a_d D E) (a_d H E) (nx.up E) (ny.up E) ⟨by omega,by omega⟩ (nx.off (g_q I (Nat.mul_le_mul hO (show 1<=S by rw [<- hS];exact Nat.le_add_left 1 _))) hb) (ny.off (g_q U (Nat.mul_le_mul hR (show 1<=L by omega))) hb) aa hz)
  rw [f_H (G:=r_T R S L wd st x y) (e_w _ _ _) (fun i hi=>m_m x y hi)] at this;exact this
 ·have:=b_B 134 (fun args W=>by simp [go_sem]) (.pointer (some ⟨M,0,none⟩)) (.pointer (some ⟨J,0,none⟩)) (.pointer (some ⟨gk,0,none⟩)) p n c [(O:Int),(R:Int),(wd:Int)] (j_G h8 h9 (Nat.le_trans h1 V)) (fun i=>0) 0 (by omega) w hT hd (fun h=>absurd h hg);rw [show p_p [(O:Int),(R:Int),(wd:Int)] (fun i=>0) = [] from if_neg hg] at this;rw [if_neg hg];exact this
/-- Row: what the document says. -/
abbrev rwA (d x d' y:List Int) (st:Int):Prop:=isP d x/\isP d' y/\1<=st/\st<=64
abbrev rwS (d d':List Int):Prop:=d.length=2/\d'.length=3/\d.getD 0 0=d'.getD 1 0/\d'.getD 2 0<=d.getD 1 0
def rwO (d d':List Int) (st:Int):List Int:=[d'.getD 0 0,((a_M (d.getD 1 0).toNat (d'.getD 2 0).toNat st.toNat:Nat):Int)]
def rwE (d x d' y:List Int) (st:Int):Int:=if rwA d x d' y st then if rwS d d' then f_7 (rwO d d' st) else 4 else 1
def rwD (d x d' y:List Int) (st:Int):List Int:=if rwA d x d' y st/\rwS d d' then d_Y (rwO d d' st) else []
def rwV (d x d' y:List Int) (st:Int):List Int:=if rwA d x d' y st/\rwS d d' then if goodN (ntl (rwO d d' st)) then h_6 (d.getD 0 0).toNat (d.getD 1 0).toNat (d'.getD 2 0).toNat (d'.getD 0 0).toNat (a_M (d.getD 1 0).toNat (d'.getD 2 0).toNat st.toNat) st.toNat x y else [] else []
theorem m_r {d x d' y:List Int} {st:Int} (h:¬ rwA d x d' y st):rwE d x d' y st=1/\rwD d x d' y st = []/\rwV d x d' y st = []:=⟨if_neg h,if_neg fun c=>h c.1,if_neg fun c=>h c.1⟩
theorem e_Y {d x d' y:List Int} {st:Int} (D:rwA d x d' y st) (h:¬ rwS d d'):rwE d x d' y st=4/\rwD d x d' y st = []/\rwV d x d' y st = []:=⟨by unfold rwE;rw [if_pos D,if_neg h],if_neg fun c=>h c.2,if_neg fun c=>h c.2⟩
theorem q_w {x y:List Int} {R L O wd st S:Nat} (D:rwA [(R:Int),(L:Int)] x [(O:Int),(R:Int),(wd:Int)] y st) (h:wd<=L) (H:a_M L wd st=S):rwE [(R:Int),(L:Int)] x [(O:Int),(R:Int),(wd:Int)] y st=f_7 [(O:Int),(S:Int)]/\rwD [(R:Int),(L:Int)] x [(O:Int),(R:Int),(wd:Int)] y st=d_Y [(O:Int),(S:Int)]/\rwV [(R:Int),(L:Int)] x [(O:Int),(R:Int),(wd:Int)] y st=if goodN (ntl [(O:Int),(S:Int)]) then h_6 R L wd O S st x y else []:=by
 have E:rwS [(R:Int),(L:Int)] [(O:Int),(R:Int),(wd:Int)]:=⟨rfl,rfl,rfl,by simpa using h⟩
 subst H;refine ⟨?_,?_,?_⟩
 ·unfold rwE;rw [if_pos D,if_pos E];rfl
 ·unfold rwD;rw [if_pos ⟨D,E⟩];rfl
 ·unfold rwV;rw [if_pos ⟨D,E⟩];rfl
/-- BackIn: what the document says. -/
abbrev biA (d x d' y:List Int) (st lg:Int):Prop:=isP d x/\isP d' y/\(1<=st/\st<=64)/\1<=lg/\lg<=4096
abbrev biS (d d':List Int) (st lg:Int):Prop:=d.length=2/\d'.length=3/\d.getD 0 0=d'.getD 0 0/\d'.getD 2 0<=lg/\d.getD 1 0=((a_M lg.toNat (d'.getD 2 0).toNat st.toNat:Nat):Int)
def biO (d':List Int) (lg:Int):List Int:=[d'.getD 1 0,lg]
def biE (d x d' y:List Int) (st lg:Int):Int:=if biA d x d' y st lg then if biS d d' st lg then f_7 (biO d' lg) else 4 else 1
def biD (d x d' y:List Int) (st lg:Int):List Int:=if biA d x d' y st lg/\biS d d' st lg then d_Y (biO d' lg) else []
def biV (d x d' y:List Int) (st lg:Int):List Int:=if biA d x d' y st lg/\biS d d' st lg then if goodN (ntl (biO d' lg)) then h_7 (d.getD 0 0).toNat (d'.getD 1 0).toNat (d.getD 1 0).toNat (d'.getD 2 0).toNat st.toNat lg.toNat x y else [] else []
theorem j_W {d x d' y:List Int} {st lg:Int} (h:¬ biA d x d' y st lg):biE d x d' y st lg=1/\biD d x d' y st lg = []/\biV d x d' y st lg = []:=⟨if_neg h,if_neg fun c=>h c.1,if_neg fun c=>h c.1⟩
theorem e_h {d x d' y:List Int} {st lg:Int} (D:biA d x d' y st lg) (h:¬ biS d d' st lg):biE d x d' y st lg=4/\biD d x d' y st lg = []/\biV d x d' y st lg = []:=⟨by unfold biE;rw [if_pos D,if_neg h],if_neg fun c=>h c.2,if_neg fun c=>h c.2⟩
theorem i_O {x y:List Int} {R L O wd st S:Nat} (D:biA [(O:Int),(S:Int)] x [(O:Int),(R:Int),(wd:Int)] y st L) (h:wd<=L) (H:a_M L wd st=S):biE [(O:Int),(S:Int)] x [(O:Int),(R:Int),(wd:Int)] y st L=f_7 [(R:Int),(L:Int)]/\biD [(O:Int),(S:Int)] x [(O:Int),(R:Int),(wd:Int)] y st L=d_Y [(R:Int),(L:Int)]/\biV [(O:Int),(S:Int)] x [(O:Int),(R:Int),(wd:Int)] y st L=if goodN (ntl [(R:Int),(L:Int)]) then h_7 O R S wd st L x y else []:=by
 have E:biS [(O:Int),(S:Int)] [(O:Int),(R:Int),(wd:Int)] st L:=⟨rfl,rfl,rfl,by simpa using h,by rw [<- H];rfl⟩
 refine ⟨?_,?_,?_⟩
 ·unfold biE;rw [if_pos D,if_pos E];rfl
 ·unfold biD;rw [if_pos ⟨D,E⟩];rfl
 ·unfold biV;rw [if_pos ⟨D,E⟩];rfl
/-- BackKernel: what the document says. -/
abbrev bkS (d d':List Int) (st lg:Int):Prop:=d.length=2/\d'.length=2/\lg<=d'.getD 1 0/\d.getD 1 0=((a_M (d'.getD 1 0).toNat lg.toNat st.toNat:Nat):Int)
def bkO (d d':List Int) (lg:Int):List Int:=[d.getD 0 0,d'.getD 0 0,lg]
def bkE (d x d' y:List Int) (st lg:Int):Int:=if biA d x d' y st lg then if bkS d d' st lg then f_7 (bkO d d' lg) else 4 else 1
def bkD (d x d' y:List Int) (st lg:Int):List Int:=if biA d x d' y st lg/\bkS d d' st lg then d_Y (bkO d d' lg) else []
def bkV (d x d' y:List Int) (st lg:Int):List Int:=if biA d x d' y st lg/\bkS d d' st lg then if goodN (ntl (bkO d d' lg)) then p_o (d.getD 0 0).toNat (d'.getD 0 0).toNat (d.getD 1 0).toNat (d'.getD 1 0).toNat lg.toNat st.toNat x y else [] else []
theorem j_X {d x d' y:List Int} {st lg:Int} (h:¬ biA d x d' y st lg):bkE d x d' y st lg=1/\bkD d x d' y st lg = []/\bkV d x d' y st lg = []:=⟨if_neg h,if_neg fun c=>h c.1,if_neg fun c=>h c.1⟩
theorem e_Z {d x d' y:List Int} {st lg:Int} (D:biA d x d' y st lg) (h:¬ bkS d d' st lg):bkE d x d' y st lg=4/\bkD d x d' y st lg = []/\bkV d x d' y st lg = []:=⟨by unfold bkE;rw [if_pos D,if_neg h],if_neg fun c=>h c.2,if_neg fun c=>h c.2⟩
theorem i_P {x y:List Int} {R L O wd st S:Nat} (D:biA [(O:Int),(S:Int)] x [(R:Int),(L:Int)] y st wd) (h:wd<=L) (H:a_M L wd st=S):bkE [(O:Int),(S:Int)] x [(R:Int),(L:Int)] y st wd=f_7 [(O:Int),(R:Int),(wd:Int)]/\bkD [(O:Int),(S:Int)] x [(R:Int),(L:Int)] y st wd=d_Y [(O:Int),(R:Int),(wd:Int)]/\bkV [(O:Int),(S:Int)] x [(R:Int),(L:Int)] y st wd=if goodN (ntl [(O:Int),(R:Int),(wd:Int)]) then p_o O R S L wd st x y else []:=by
 have E:bkS [(O:Int),(S:Int)] [(R:Int),(L:Int)] st wd:=⟨rfl,rfl,by simpa using h,by rw [<- H];rfl⟩
 refine ⟨?_,?_,?_⟩
 ·unfold bkE;rw [if_pos D,if_pos E];rfl
 ·unfold bkD;rw [if_pos ⟨D,E⟩];rfl
 ·unfold bkV;rw [if_pos ⟨D,E⟩];rfl
end Go.Proofs.YtcpbhhlepdgdkaaGreatDoor.Wd
