/- A sum along a side: that side turned to  -/
import Derived.Test.YtjlofobnmjompaaGreatDoorP11
set_option linter.unusedVariables false
set_option linter.unusedSimpArgs false
set_option maxHeartbeats 16000000
set_option maxRecDepth 16000
namespace Go.Proofs.YtjlofobnmjompaaGreatDoor.Wd
open Go.RowKit Fx
theorem o_g:∀ n,n < 5->∀ s,s < n->k_8 (c_p n (s:Int)) n:=by decide +kernel
theorem o_h (n:Nat) (D:Int) (h:¬ (0<=D/\D < (n:Int))):¬ k_8 (c_p n D) n:=by
 intro H;have E:=H.1
 have L:i_x n D=itl (List.range n):=by
  unfold i_x;refine List.filter_eq_self.2 fun y J=>?_;obtain ⟨k,I,rfl⟩:=List.mem_map.1 J;have:=List.mem_range.1 I;simp;omega
 unfold c_p at E;rw [L,List.length_append,a_v,List.length_range,List.length_singleton] at E;omega
theorem o_i (n s:Nat) (E:n<=4) (H:s < n) (P:List Nat) (D:P.length+1=n) (k:Nat):unp (ntl (c_p n (s:Int))) (P++[k]) n=t_s P s k:=by
 rcases P with _|⟨a,_|⟨b,_|⟨c,_|⟨e,P⟩⟩⟩⟩
 ·simp at D;subst D;obtain rfl:s=0:=by omega
  rfl
 ·simp at D;subst D;obtain rfl|rfl:s=0∨s=1:=by omega
  ·rfl
  ·rfl
 ·simp at D;subst D;obtain rfl|rfl|rfl:s=0∨s=1∨s=2:=by omega
  ·rfl
  ·rfl
  ·rfl
 ·simp at D;subst D;obtain rfl|rfl|rfl|rfl:s=0∨s=1∨s=2∨s=3:=by omega
  ·rfl
  ·rfl
  ·rfl
  ·rfl
 ·simp at D;omega
theorem h_S (d:List Nat) (E:d.length<=4) (s:Nat) (D:s < d.length):b_8 d (ntl (c_p d.length (s:Int)))=b_l d s++[d.getD s 0]:=by
 rcases d with _|⟨a,_|⟨b,_|⟨c,_|⟨e,_|⟨f,d⟩⟩⟩⟩⟩
 ·simp at D
 ·obtain rfl:s=0:=by simp at D;omega
  rfl
 ·obtain rfl|rfl:s=0∨s=1:=by simp at D;omega
  ·rfl
  ·rfl
 ·obtain rfl|rfl|rfl:s=0∨s=1∨s=2:=by simp at D;omega
  ·rfl
  ·rfl
  ·rfl
 ·obtain rfl|rfl|rfl|rfl:s=0∨s=1∨s=2∨s=3:=by simp at D;omega
  ·rfl
  ·rfl
  ·rfl
  ·rfl
 ·simp at E
theorem h_T (c k:Nat) (D:k < c):∀ (r:List Nat) (i:Nat),(∀ x,x∈r->1<=x)->i < a_e r->a_T (r++[c]) (i*c+k)=a_T r i++[k]
 | [],i,_,H=>by
  have H:i < 1:=H;obtain rfl:i=0:=by omega
  show [(0*c+k) / a_e []] = [k];rw [show a_e []=1 from rfl,Nat.div_one,Nat.zero_mul,Nat.zero_add]
 | x :: r,i,hp,H=>by
  have I:1<=a_e r:=a_B fun y E=>hp y (List.mem_cons_of_mem _ E);have L:=h_T c k D r (i % a_e r) (fun y E=>hp y (List.mem_cons_of_mem _ E)) (Nat.mod_lt _ I);have e:a_e (r++[c])=a_e r*c:=by rw [a_D];simp [a_e]
  have O:0 < c:=by omega
  simp only [List.cons_append,a_T];rw [e]
  have M:(i*c+k) / (a_e r*c)=i / a_e r:=by
   rw [Nat.mul_comm (a_e r) c,<- Nat.div_div_eq_div_mul,c_M _ _ _ D]
  have J:(i*c+k) % (a_e r*c)=i % a_e r*c+k:=by
   rw [Nat.mul_comm (a_e r) c,Nat.mod_mul,d_w _ _ _ D,c_M _ _ _ D,Nat.mul_comm,Nat.add_comm]
  rw [M,J,L]
/-- Where the numbers of one sum stood. -/
theorem l_5 {d:List Nat} (E:goodN d) (s:Nat) (D:s < d.length) (i k:Nat) (H:i < a_e (b_l d s)) (I:k < d.getD s 0):
  f_i d (ntl (c_p d.length (s:Int))) (i*d.getD s 0+k)=(i / a_e (d.drop (s+1))*d.getD s 0+k)*a_e (d.drop (s+1))+i % a_e (d.drop (s+1)):=by
 have J:(a_T (b_l d s) i).length+1=d.length:=by
  rw [c_w];simp only [b_l,List.length_append,List.length_take,List.length_drop];omega
 unfold f_i;rw [h_S d E.1 s D,h_T _ _ I _ _ (d_a E s D).2.1 H,o_i _ _ E.1 D _ J,p_4 E s D i k H]
abbrev smP (d x:List Int) (side:Int):Prop:=isP d x/\0<=side/\side < (d.length:Int)
def smE (d x:List Int) (side:Int):Int:=if smP d x side then 0 else 1
def smD (d x:List Int) (side:Int):List Int:=if smP d x side then itl (b_l (ntl d) side.toNat) else []
def smV (d x:List Int) (side:Int):List Int:=if smP d x side then o_9 (ntl d) side.toNat x else []
theorem q_e {d x:List Int} {D:Int} (h:¬ smP d x D):smE d x D=1/\smD d x D = []/\smV d x D = []/\h_O d x (c_p d.length D)=1/\g_X d x (c_p d.length D) = []/\e_M d x (c_p d.length D) = []:=by
 have E:¬ f_Z d x (c_p d.length D):=fun c=>h ⟨c.1,Classical.byContradiction fun H=>o_h _ _ H c.2⟩;exact ⟨if_neg h,if_neg h,if_neg h,if_neg E,if_neg E,if_neg E⟩
/-- What Turn hands back where there is such a side. -/
theorem q_f {a:List Nat} {x:List Int} (H:goodN a) (M:x.length=a_e a) (s:Nat) (E:s < a.length):
  h_O (itl a) x (c_p a.length (s:Int))=0/\g_X (itl a) x (c_p a.length (s:Int))=itl (b_l a s++[a.getD s 0])/\(e_M (itl a) x (c_p a.length (s:Int))).length=a_e a/\
   ∀ i k,i < a_e (b_l a s)->k < a.getD s 0->(e_M (itl a) x (c_p a.length (s:Int))).getD (i*a.getD s 0+k) 0=x.getD ((i / a_e (a.drop (s+1))*a.getD s 0+k)*a_e (a.drop (s+1))+i % a_e (a.drop (s+1))) 0:=by
 have D:f_Z (itl a) x (c_p a.length (s:Int)):=by
  refine ⟨⟨by rw [a_p];exact H,by rw [a_p];exact M⟩,?_⟩;rw [a_v];exact o_g _ (by have:=H.1;omega) s E
 have e:∀ o,f_Z (itl a) x o->e_M (itl a) x o=(List.range (a_e a)).map fun i=>x.getD (f_i a (ntl o) i) 0:=fun o h=>by
  unfold e_M;rw [if_pos h,a_p]
 refine ⟨if_pos D,?_,?_,fun i k L J=>?_⟩
 ·unfold g_X;rw [if_pos D,a_p,h_S a H.1 s E]
 ·rw [e _ D];simp
 ·have I:i*a.getD s 0+k < a_e a:=by
   rw [<- d_x a s E];exact a_0 L J
  rw [e _ D,a_I _ _ _ _ I,l_5 H s E i k L J]
theorem f_y:∀ n,b_j (fun _=>0) n=0
 | 0=>rfl
 | n+1=>by rw [b_j,f_y n];rfl
theorem b_h {f:Nat->Int} (n:Nat) (h:∀ k,k < n->f k=0):b_j f n=0:=by rw [b_b n h,f_y]
theorem j_M (f g:Nat->Int):∀ n,b_j (fun k=>f k+g k) n=b_j f n+b_j g n
 | 0=>rfl
 | n+1=>by rw [b_j,b_j,b_j,j_M f g n];omega
theorem g_j (f:Nat->Int) (n:Nat):∀ m,b_j f (n+m)=b_j f n+b_j (fun k=>f (n+k)) m
 | 0=>by simp [b_j]
 | m+1=>by rw [<- Nat.add_assoc,b_j,g_j f n m,b_j];omega
/-- Two sums, the one in the other, in either order. -/
theorem h_U (f:Nat->Nat->Int) (n:Nat):∀ m,b_j (fun i=>b_j (fun j=>f i j) n) m=b_j (fun j=>b_j (fun i=>f i j) m) n
 | 0=>by simp only [b_j];rw [f_y]
 | m+1=>by
  rw [b_j,h_U f n m,<- j_M];rfl
/-- Of a sum where one place alone counts: what stands there. -/
theorem c_P (f:Nat->Int) (j:Nat) (n:Nat) (h:∀ k,k < n->k≠j->f k=0):b_j f n=if j < n then f j else 0:=by
 rw [<- h_K (f j) j n];refine b_b n fun k D=>?_;by_cases e:k=j
 ·rw [if_pos e,e]
 ·rw [if_neg e,h k D e]
/-- A sum of sums of w each, as one. -/
def l_6 (f:Nat->Nat->Int) (w m:Nat):Int:=b_j (fun q=>f (q / w) (q % w)) m
theorem e_b (f:Nat->Nat->Int) (w:Nat):∀ c,l_6 f w (c*w)=b_j (fun x=>b_j (fun y=>f x y) w) c
 | 0=>by rw [Nat.zero_mul];rfl
 | c+1=>by
  rw [b_j,<- e_b f w c,Nat.add_mul,Nat.one_mul];show b_j _ (c*w+w)=b_j _ (c*w)+_;rw [g_j]
  congr 1
  refine b_b w fun y D=>?_;rw [c_M _ _ _ D,d_w _ _ _ D]
/-- Where the greatest of v's m + 1 numbers from b on stands first. -/
def c_q (v:List Int) (b:Nat):Nat->Nat
 | 0=>b
 | m+1=>if v.getD (c_q v b m) 0 < v.getD (b+(m+1)) 0 then b+(m+1) else c_q v b m
theorem e_T (v:List Int) (b:Nat):∀ m,b<=c_q v b m/\c_q v b m<=b+m
 | 0=>⟨Nat.le_refl _,Nat.le_refl _⟩
 | m+1=>by
  have:=e_T v b m;rw [c_q]
  split <;> omega
/-- A Row's number: c rows of l, windows of c by w, at step. -/
def l_7 (c l w n step:Nat) (a k:List Int) (q:Nat):Int:=rnd (l_6 (fun x y=>a.getD (x*l+q % n*step+y) 0*k.getD ((q / n*c+x)*w+y) 0) w (c*w))
def h_V (c l w o n step:Nat) (a k:List Int):List Int:=(List.range (o*n)).map (l_7 c l w n step a k)
theorem l_8 (c l w o n D:Nat) (a k:List Int):(h_V c l w o n D a k).length=o*n:=by simp [h_V]
/-- What a gradient gives for the rows: one product, where the window's place j comes to l. -/
def bkT (c n w step:Nat) (g k:List Int) (x l i j:Nat):Int:=if j*step<=l/\l - j*step < w then g.getD (i*n+j) 0*k.getD ((i*c+x)*w+(l - j*step)) 0 else 0
def k_F (o c n w step long:Nat) (g k:List Int) (q:Nat):Int:=rnd (b_j (fun j=>b_j (fun i=>bkT c n w step g k (q / long) (q % long) i j) o) n)
def h_W (o c n w step long:Nat) (g k:List Int):List Int:=(List.range (c*long)).map (k_F o c n w step long g k)
theorem l_9 (o c n w E D:Nat) (g k:List Int):(h_W o c n w E D g k).length=c*D:=by simp [h_W]
theorem m_a (o c n w E D:Nat) (g k:List Int) (q:Nat):k_F o c n w E D g k q=rnd (b_j (fun i=>b_j (fun j=>bkT c n w E g k (q / D) (q % D) i j) n) o):=by
 unfold k_F;rw [h_U]
/-- The same, over all numbers of the window. -/
theorem m_b (c n w D:Nat) (g k:List Int) (x l i j:Nat):bkT c n w D g k x l i j=b_j (fun y=>if j*D+y=l then g.getD (i*n+j) 0*k.getD ((i*c+x)*w+y) 0 else 0) w:=by
 unfold bkT;by_cases H:j*D<=l
 ·rw [c_P _ (l - j*D) w fun y I J=>by rw [if_neg (by omega)]];by_cases E:l - j*D < w
  ·rw [if_pos ⟨H,E⟩,if_pos E,if_pos (by omega)]
  ·rw [if_neg (fun c=>E c.2),if_neg E]
 ·rw [if_neg (fun c=>H c.1),b_h w fun y I=>by rw [if_neg (by omega)]]
/-- What a gradient gives for the windows. -/
def r_E (c n l wide step:Nat) (g a:List Int) (q:Nat):Int:=rnd (b_j (fun j=>g.getD (q / wide / c*n+j) 0*a.getD (q / wide % c*l+j*step+q % wide) 0) n)
def p_c (o c n l wide step:Nat) (g a:List Int):List Int:=(List.range (o*c*wide)).map (r_E c n l wide step g a)
theorem o_j (o c n l D E:Nat) (g a:List Int):(p_c o c n l D E g a).length=o*c*D:=by simp [p_c]
/-- The greatest of each wide numbers: where they stand, and they. -/
def f_0 (l n wide:Nat) (v:List Int) (q:Nat):Nat:=c_q v (q / n*l+q % n*wide) (wide - 1)
def e_y (c l n wide:Nat) (v:List Int):List Int:=(List.range (c*n)).map fun q=>((f_0 l n wide v q:Nat):Int)
def h_X (c l n wide:Nat) (v:List Int):List Int:=(List.range (c*n)).map fun q=>v.getD (f_0 l n wide v q) 0
theorem m_c (c l n D:Nat) (v:List Int):(e_y c l n D v).length=c*n:=by simp [e_y]
theorem h_Y (c l n D:Nat) (v:List Int):(h_X c l n D v).length=c*n:=by simp [h_X]
theorem i_z {c l n D q:Nat} (v:List Int) (L:q < c*n) (V:1<=D) (R:n*D<=l):q / n*l+q % n*D+D<=c*l/\f_0 l n D v q < c*l:=by
 have E:q < n*c:=by rw [Nat.mul_comm];exact L
 have H:=e_a E;have M:q / n < c:=d_9 E;have J:q % n < n:=Nat.mod_lt _ H;have O:(q % n+1)*D<=n*D:=Nat.mul_le_mul_right _ J;have I:(q / n+1)*l<=c*l:=Nat.mul_le_mul_right _ M;rw [Nat.add_mul,Nat.one_mul] at O I;have U:=(e_T v (q / n*l+q % n*D) (D - 1)).2;unfold f_0;omega
/-- How many stops. -/
def a_M (L wd st:Nat):Nat:=(L - wd) / st+1
/-- A sum of sums of sums of sums, as one. -/
def b_V (f:Nat->Nat->Nat->Nat->Int) (R S w q:Nat):Int:=b_j (fun t=>f (t / w / S / R) (t / w / S % R) (t / w % S) (t % w)) q
theorem e_z (f:Nat->Nat->Nat->Nat->Int) {R S w o c n y:Nat} (H:c < R) (D:n < S) (E:y < w):b_V f R S w (((o*R+c)*S+n)*w+(y+1))=b_V f R S w (((o*R+c)*S+n)*w+y)+f o c n y:=by
 show b_j _ (((o*R+c)*S+n)*w+y+1)=_;rw [b_j,c_M _ _ _ E,d_w _ _ _ E,c_M _ _ _ D,d_w _ _ _ D,c_M _ _ _ H,d_w _ _ _ H];rfl
theorem f_z (f:Nat->Nat->Nat->Nat->Int) (O R S w:Nat):b_V f R S w (O*R*S*w)=b_j (fun o=>b_j (fun c=>b_j (fun n=>b_j (fun y=>f o c n y) w) S) R) O:=by
 have D:b_V f R S w (O*R*S*w)=l_6 (fun a y=>f (a / S / R) (a / S % R) (a % S) y) w (O*R*S*w):=rfl;have H:b_j (fun a=>b_j (fun y=>f (a / S / R) (a / S % R) (a % S) y) w) (O*R*S)=l_6 (fun b n=>b_j (fun y=>f (b / R) (b % R) n y) w) S (O*R*S):=rfl;have E:b_j (fun b=>b_j (fun n=>b_j (fun y=>f (b / R) (b % R) n y) w) S) (O*R)=l_6 (fun o c=>b_j (fun n=>b_j (fun y=>f o c n y) w) S) R (O*R):=rfl;rw [D,e_b,H,e_b,E,e_b]
theorem f_A {o S n i:Nat} (D:n < S) (h:o*S+n=i):o=i / S/\n=i % S:=by
 subst h;exact ⟨(c_M _ _ _ D).symm,(d_w _ _ _ D).symm⟩
theorem e_c (i S:Nat):i / S*S+i % S=i:=by rw [Nat.mul_comm];exact Nat.div_add_mod i S
/-- What meets at a number of Row. -/
def n_u (L R S w st:Nat) (a k:List Int) (i o c n y:Nat):Int:=if o*S+n=i then a.getD (c*L+n*st+y) 0*k.getD ((o*R+c)*w+y) 0 else 0
theorem m_d {L O R S w st i:Nat} (a k:List Int) (U:i < O*S):rnd (b_V (n_u L R S w st a k i) R S w (O*R*S*w))=l_7 R L w S st a k i:=by
 have E:i < S*O:=by rw [Nat.mul_comm];exact U
 have M:=e_a E;rw [f_z,c_P _ (i / S) O fun o V D=>?_,if_pos (d_9 E)]
 ·unfold l_7
  congr 1
  rw [e_b];refine b_b R fun c J=>?_;rw [c_P _ (i % S) S fun n H D=>?_,if_pos (Nat.mod_lt _ M)]
  ·refine b_b w fun y I=>?_;unfold n_u;rw [if_pos (e_c i S)]
  ·refine b_h w fun y I=>?_;unfold n_u;rw [if_neg fun h=>D (f_A H h).2]
 ·refine b_h R fun c J=>b_h S fun n H=>b_h w fun y I=>?_;unfold n_u;rw [if_neg fun h=>D (f_A H h).1]
/-- What meets at a number of BackIn. -/
def inT (L R S w st:Nat) (g k:List Int) (i o c n y:Nat):Int:=if c*L+n*st+y=i then g.getD (o*S+n) 0*k.getD ((o*R+c)*w+y) 0 else 0
theorem o_k {L O R S w st i:Nat} (g k:List Int) (V:i < R*L) (I:∀ n,n < S->n*st+w<=L):rnd (b_V (inT L R S w st g k i) R S w (O*R*S*w))=k_F O R S w st L g k i:=by
 have D:i < L*R:=by rw [Nat.mul_comm];exact V
 have J:=e_a D;rw [f_z,m_a]
 congr 1
 refine b_b O fun o ho=>?_;rw [c_P _ (i / L) R fun c hc H=>?_,if_pos (d_9 D)]
 ·refine b_b S fun n E=>?_;rw [m_b];refine b_b w fun y M=>?_;unfold inT;have hb:=e_c i L;have U:=I n E;by_cases h:n*st+y=i % L
  ·rw [if_pos (by omega),if_pos h]
  ·rw [if_neg (by omega),if_neg h]
 ·refine b_h S fun n E=>b_h w fun y M=>?_;unfold inT;have U:=I n E;rw [if_neg fun h=>H (f_A (n:=n*st+y) (by omega) (by rw [<- Nat.add_assoc];exact h)).1]
/-- What meets at a number of BackKernel. -/
def m_e (L R S w st:Nat) (g a:List Int) (i o c n y:Nat):Int:=if (o*R+c)*w+y=i then g.getD (o*S+n) 0*a.getD (c*L+n*st+y) 0 else 0
theorem m_f {L O R S w st i:Nat} (g a:List Int) (hi:i < O*R*w):rnd (b_V (m_e L R S w st g a i) R S w (O*R*S*w))=r_E R S L w st g a i:=by
 have J:i < w*(O*R):=by rw [Nat.mul_comm];exact hi
 have hw:=e_a J;have hq:i / w < R*O:=by rw [Nat.mul_comm R O];exact d_9 J
 have U:=e_a hq
 have H:∀ o c y,c < R->y < w->(o*R+c)*w+y=i->o=i / w / R/\c=i / w % R/\y=i % w:=by
  intro o c y I E h;have h1:=f_A E h;have V:=f_A I h1.1;exact ⟨V.1,V.2,h1.2⟩
 rw [f_z,c_P _ (i / w / R) O fun o ho D=>?_,if_pos (d_9 hq)]
 ·rw [c_P _ (i / w % R) R fun c I D=>?_,if_pos (Nat.mod_lt _ U)]
  ·unfold r_E
   congr 1
   refine b_b S fun n M=>?_;rw [c_P _ (i % w) w fun y E D=>?_,if_pos (Nat.mod_lt _ hw)]
   ·unfold m_e;rw [if_pos (by rw [e_c,e_c])]
   ·unfold m_e;rw [if_neg fun h=>D (H _ _ _ (Nat.mod_lt _ U) E h).2.2]
  ·refine b_h S fun n M=>b_h w fun y E=>?_;unfold m_e;rw [if_neg fun h=>D (H _ _ _ I E h).2.1]
 ·refine b_h R fun c I=>b_h S fun n M=>b_h w fun y E=>?_;unfold m_e;rw [if_neg fun h=>D (H _ _ _ I E h).1]
theorem e_d (R L O wd st:Nat) (h1:wd<=L) (h2:L<=4096) (h3:1<=st) (h4:st<=64) (w:World):
  Calls Tryz.prog 139 #[.agg #[.int .i64 (R:Int),.int .i64 (L:Int),.int .i64 (O:Int),.int .i64 (wd:Int),.int .i64 (st:Int)]] w fun e U=>e = .returned (.int .i64 (a_M L wd st:Nat))/\Below w.heap.size w U:=by
 obtain ⟨D,H⟩:∃ D,L - wd=D:=⟨_,rfl⟩
 have aa:(L:Int) - (wd:Int)=(D:Int):=by omega
 obtain ⟨q,E⟩:∃ q,D / st=q:=⟨_,rfl⟩
 have ab:(D:Int) / (st:Int)=(q:Int):=by rw [<- E];rfl
 have hq:q<=D:=by rw [<- E];exact Nat.div_le_self _ _
 have J:(q:Int)<=4096:=by omega
 have V:(D:Int)<=4096:=by omega
 have ac:(L:Int)<=4096:=by omega
 have M:(wd:Int)<=4096:=by omega
 have ad:1<=(st:Int)/\(st:Int)<=64:=by omega
 have I:((a_M L wd st:Nat):Int)=(q:Int)+1:=by unfold a_M;rw [H,E];rfl
 rw [I];clear I H E;go_enter Tryz.func139,Tryz.ntmps139;go_wp2;go_ret;exact ⟨rfl,by go_grown⟩
theorem d_c (st:Int) (w:World):
  Calls Tryz.prog 137 #[.int .i64 st] w fun e H=>e = .returned (.bool (decide (1<=st/\st<=64)))/\Below w.heap.size w H:=by
 by_cases E:1<=st
 ·by_cases D:st<=64
  ·rw [decide_eq_true ⟨E,D⟩];go_enter Tryz.func137,Tryz.ntmps137;go_wp2;go_ret;exact ⟨rfl,by go_grown⟩
  ·rw [decide_eq_false fun h=>D h.2];go_enter Tryz.func137,Tryz.ntmps137;go_wp2;go_ret;exact ⟨rfl,by go_grown⟩
 ·rw [decide_eq_false fun h=>E h.1];go_enter Tryz.func137,Tryz.ntmps137;go_wp2;go_ret;exact ⟨rfl,by go_grown⟩
theorem d_K (n:Int) (w:World):
  Calls Tryz.prog 138 #[.int .i64 n] w fun e H=>e = .returned (.bool (decide (1<=n/\n<=4096)))/\Below w.heap.size w H:=by
 by_cases E:1<=n
 ·by_cases D:n<=4096
  ·rw [decide_eq_true ⟨E,D⟩];go_enter Tryz.func138,Tryz.ntmps138;go_wp2;go_ret;exact ⟨rfl,by go_grown⟩
  ·rw [decide_eq_false fun h=>D h.2];go_enter Tryz.func138,Tryz.ntmps138;go_wp2;go_ret;exact ⟨rfl,by go_grown⟩
 ·rw [decide_eq_false fun h=>E h.1];go_enter Tryz.func138,Tryz.ntmps138;go_wp2;go_ret;exact ⟨rfl,by go_grown⟩
/-- A slide's numbers, in a block. -/
def SlC (W:World) (b R L O wd st:Nat):Prop:=
 W.cell? ⟨b,0,none⟩=some (.int .i64 (R:Int))/\W.cell? ⟨b,1,none⟩=some (.int .i64 (L:Int))/\W.cell? ⟨b,2,none⟩=some (.int .i64 (O:Int))/\W.cell? ⟨b,3,none⟩=some (.int .i64 (wd:Int))/\W.cell? ⟨b,4,none⟩=some (.int .i64 (st:Int))
theorem SlC.up {W W':World} {b R L O wd st:Nat} (h:SlC W b R L O wd st) (D:Below W.heap.size W W'):SlC W' b R L O wd st:=
 ⟨a_d h.1 D,a_d h.2.1 D,a_d h.2.2.1 D,a_d h.2.2.2.1 D,a_d h.2.2.2.2 D⟩
theorem SlC.stay {W W':World} {g b R L O wd st:Nat} (h:SlC W b R L O wd st) (E:Stay g W W') (D:b≠g):SlC W' b R L O wd st:=
 ⟨E.cell h.1 D,E.cell h.2.1 D,E.cell h.2.2.1 D,E.cell h.2.2.2.1 D,E.cell h.2.2.2.2 D⟩
theorem f_B (K:FuncId) (aE:∀ args W,(callFunc K args).run Tryz.prog W = .ok (.enter K args) W) (u0 u1 u2:Value) (b R L O wd st S:Nat) (hS:a_M L wd st=S) (h1:wd<=L) (h2:L<=4096) (h3:1<=st) (h4:st<=64) (h5:O*R*wd<=4096) (h6:O*S<=4096) (h7:R*L<=4096) (h8:O<=4096) (h9:R<=4096)
  (I:Nat->World->Prop) (hI:∀ q W W',I q W->Below W.heap.size W W'->I q W')
  (hK:∀ o c n y,o < O->c < R->n < S->y < wd->∀ W,I (((o*R+c)*S+n)*wd+y) W->Calls Tryz.prog K #[.int .i64 ((c*L+n*st+y:Nat):Int),.int .i64 (((o*R+c)*wd+y:Nat):Int),.int .i64 ((o*S+n:Nat):Int),u0,u1,u2] W fun e H=>e = .returned (.tuple #[])/\I (((o*R+c)*S+n)*wd+(y+1)) H/\Stay b W H/\Below b W H)
  (w:World) (hb:b < w.heap.size) (h0:I 0 w):
  Calls Tryz.prog 142 #[.agg #[.int .i64 (R:Int),.int .i64 (L:Int),.int .i64 (O:Int),.int .i64 (wd:Int),.int .i64 (st:Int)],.func (.func K) #[] #[u0,u1,u2]] w fun e H=>e = .returned (.tuple #[])/\I (O*R*S*wd) H/\Stay b w H/\Below b w H:=by
 have cS:∀ W:World,Calls Tryz.prog 139 #[.agg #[.int .i64 (R:Int),.int .i64 (L:Int),.int .i64 (O:Int),.int .i64 (wd:Int),.int .i64 (st:Int)]] W fun e H=>e = .returned (.int .i64 (S:Int))/\Below W.heap.size W H:=fun W=>by rw [<- hS];exact e_d R L O wd st h1 h2 h3 h4 W
 have HI:Hid (∀ q W W',I q W->Below W.heap.size W W'->I q W'):=hI;have HK:Hid (∀ o c n y,o < O->c < R->n < S->y < wd->∀ W,I (((o*R+c)*S+n)*wd+y) W->Calls Tryz.prog K #[.int .i64 ((c*L+n*st+y:Nat):Int),.int .i64 (((o*R+c)*wd+y:Nat):Int),.int .i64 ((o*S+n:Nat):Int),u0,u1,u2] W fun e H=>e = .returned (.tuple #[])/\I (((o*R+c)*S+n)*wd+(y+1)) H/\Stay b W H/\Below b W H):=hK;have H0:Hid (I 0 w):=h0
 have HR:Hid ((∀ n,n < S->n*st+wd<=L)/\O*R*wd<=4096/\O*S<=4096/\R*L<=4096):=⟨fun n hn=>by
  unfold a_M at hS;have:n<=(L - wd) / st:=by omega
  have:=(Nat.le_div_iff_mul_le (by omega)).1 this;omega,h5,h6,h7⟩
 have aQ:S<=4097:=by rw [<- hS];unfold a_M;have:=Nat.div_le_self (L - wd) st;omega
 have av:(wd:Int)<=4096/\(L:Int)<=4096/\1<=(st:Int)/\(st:Int)<=64/\(O:Int)<=4096/\(R:Int)<=4096/\(S:Int)<=4097:=by omega
 obtain ⟨aN,aX,aS,aO,aM,aU,aT⟩:=av;clear hI hK h0 h5 h6 h7 hS h1 h2 h3 h4;haveI:Nonempty World:=⟨w⟩
 go_enter Tryz.func142,Tryz.ntmps142;go_wp2_with fail
 generalize ae:World.alloc _ _=W0;have ak:Below w.heap.size w W0:=by rw [<- ae];exact a_b w _
 have X0:SlC W0 w.heap.size R L O wd st:=by unfold SlC;rw [<- ae];simp [go_sem]
 clear ae;refine (cS W0).mono ?_;rintro e D ⟨rfl,ag⟩;have hB:Below w.heap.size w D:=a_c ak ag;have U:Hid (SlC D w.heap.size R L O wd st/\b < w.heap.size):=⟨X0.up ag,hb⟩
 have H1:Hid (I (0*R*S*wd) D/\Stay b w D/\Below b w D):=⟨by rw [Nat.zero_mul,Nat.zero_mul,Nat.zero_mul];exact HI.out _ _ _ H0.out hB,Stay.of hB,hB.mono (Nat.le_of_lt hb)⟩
 clear ak X0 ag hB cS hb H0;obtain ⟨z0,z1,z2,z3,z4⟩:=U.out.1;have zl:=a_a z0;obtain ⟨G,eG⟩:∃ G,w.heap.size=G:=⟨_,rfl⟩
 rw [eG] at z0 z1 z2 z3 z4 U ⊢;clear eG;go_wp2_with fail
 clear z0 z1 z2 z3 z4 zl
 go_loopg [15] O (fun gg i wr=>∃ (o:Nat),o<=O/\gg=O - o/\i = .int .i64 (o:Int)/\Hid (I (o*R*S*wd) wr/\Stay b w wr/\Below b w wr/\Stay b D wr))
 case atStart=>exact ⟨0,by omega,by omega,by first|rfl|simp,H1.out.1,H1.out.2.1,H1.out.2.2,Stay.refl _ _⟩
 case round=>
  obtain ⟨o,ho,aK,rfl,Ho⟩:=hrel;obtain ⟨R1,aA⟩:∃ R1:World,R1=wr:=⟨_,rfl⟩
  subst aA;by_cases M:o < O
  ·have aI:(o:Int) < (O:Int):=by omega
   obtain ⟨z0,z1,z2,z3,z4⟩:=U.out.1.stay Ho.out.2.2.2 (by have:=U.out.2;omega);have zl:=a_a z0;go_wp2_with fail
   clear z0 z1 z2 z3 z4 zl;rw [show o*R*S=(o*R+0)*S from rfl] at Ho
   go_loopg [20] R (fun gg i wr=>∃ (c:Nat),c<=R/\gg=R - c/\i = .int .i64 (c:Int)/\Hid (I ((o*R+c)*S*wd) wr/\Stay b w wr/\Below b w wr/\Stay b D wr))
   case atStart=>exact ⟨0,by omega,by omega,by first|rfl|simp,Ho⟩
   case round=>
    obtain ⟨c,hc,aZ,rfl,Hc⟩:=hrel;obtain ⟨R2,au⟩:∃ R2:World,R2=wr:=⟨_,rfl⟩
    subst au;by_cases ab:c < R
    ·have aL:(c:Int) < (R:Int):=by omega
     go_wp2_with fail
     rw [show (o*R+c)*S=(o*R+c)*S+0 from rfl] at Hc
     go_loopg [24] S (fun gg i wr=>∃ (n:Nat),n<=S/\gg=S - n/\i = .int .i64 (n:Int)/\Hid (I (((o*R+c)*S+n)*wd) wr/\Stay b w wr/\Below b w wr/\Stay b D wr))
     case atStart=>exact ⟨0,by omega,by omega,by first|rfl|simp,Hc⟩
     case round=>
      obtain ⟨n,hn,aW,rfl,Hn⟩:=hrel;obtain ⟨R3,aD⟩:∃ R3:World,R3=wr:=⟨_,rfl⟩
      subst aD;by_cases af:n < S
      ·have a0:(n:Int) < (S:Int):=by omega
       obtain ⟨z0,z1,z2,z3,z4⟩:=U.out.1.stay Hn.out.2.2.2 (by have:=U.out.2;omega);have zl:=a_a z0;have b1:=HR.out.1 n af;have b2:(c+1)*L<=R*L:=Nat.mul_le_mul_right L ab;have b3:(o*R+c+1)*wd<=O*R*wd:=Nat.mul_le_mul_right wd (a_0 M ab);have b4:o*S+n < O*S:=a_0 M af;have b5:=HR.out.2;rw [Nat.add_mul,Nat.one_mul] at b2 b3;have b6:=a_0 M ab;have b7:o*R<=O*R:=Nat.mul_le_mul_right R (Nat.le_of_lt M);have b8:O*R<=16777216:=Nat.mul_le_mul h8 h9;obtain ⟨A,eA⟩:∃ A,c*L=A:=⟨_,rfl⟩
       obtain ⟨B,eB⟩:∃ B,n*st=B:=⟨_,rfl⟩
       obtain ⟨C,eC⟩:∃ C,o*R=C:=⟨_,rfl⟩
       obtain ⟨OR,ar⟩:∃ C,O*R=C:=⟨_,rfl⟩
       obtain ⟨RL,ac⟩:∃ C,R*L=C:=⟨_,rfl⟩
       have aw:(c:Int)*(L:Int)=(A:Int):=by rw [<- eA];push_cast;rfl
       have aB:(n:Int)*(st:Int)=(B:Int):=by rw [<- eB];push_cast;rfl
       have ax:(o:Int)*(R:Int)=(C:Int):=by rw [<- eC];push_cast;rfl
       rw [eC] at b3 b6 b7;rw [eA,ac] at b2;rw [eB] at b1;rw [ar] at b6 b7 b8;rw [ac] at b5;obtain ⟨E,eE⟩:∃ E,C+c=E:=⟨_,rfl⟩
       have aC:(C:Int)+(c:Int)=(E:Int):=by omega
       obtain ⟨AB,ao⟩:∃ E,A+B=E:=⟨_,rfl⟩
       have an:(A:Int)+(B:Int)=(AB:Int):=by omega
       rw [eE] at b3 b6;obtain ⟨KB,V⟩:∃ E',E*wd=E':=⟨_,rfl⟩
       have aj:(E:Int)*(wd:Int)=(KB:Int):=by rw [<- V];push_cast;rfl
       rw [V] at b3;obtain ⟨OS,aa⟩:∃ E',o*S=E':=⟨_,rfl⟩
       have aG:(o:Int)*(S:Int)=(OS:Int):=by rw [<- aa];push_cast;rfl
       obtain ⟨Q,eQ⟩:∃ E',OS+n=E':=⟨_,rfl⟩
       have aV:(OS:Int)+(n:Int)=(Q:Int):=by omega
       rw [aa,eQ] at b4;have HE:Hid (c*L+n*st=AB/\(o*R+c)*wd=KB/\o*S+n=Q):=⟨by rw [eA,eB,ao],by rw [eC,eE,V],by rw [aa,eQ]⟩
       have aR:(A:Int)<=10000/\(B:Int)<=10000/\(C:Int)<=16777216/\(E:Int)<=16777217:=by omega
       have aP:(AB:Int)+(wd:Int)<=20000/\(KB:Int)+(wd:Int)<=20000/\(Q:Int)<=20000/\(OS:Int)<=20000:=by omega
       clear eA eB eC ar ac eE ao V aa eQ b1 b2 b3 b4 b5 b6 b7 b8;go_wp2_with fail
       go_quiet (fail)
       generalize ai:World.drewN R3 nq=w5;have J:Below R3.heap.size R3 w5:=by rw [<- ai];exact a_m (Below.refl _ _) nq
       have ad:Hid (I (((o*R+c)*S+n)*wd) w5/\Stay b w w5/\Below b w w5/\Stay b D w5):=⟨HI.out _ _ _ Hn.out.1 J,Hn.out.2.1.up J,Hn.out.2.2.1.trans (J.mono (by have h:=U.out.2;have h2:=a_a z0;omega)),Hn.out.2.2.2.up J⟩
       clear ai J z0 z1 z2 z3 z4 zl;obtain ⟨z0,z1,z2,z3,z4⟩:=U.out.1.stay ad.out.2.2.2 (by have:=U.out.2;omega);have zl:=a_a z0;go_wp2_with fail
       clear z0 z1 z2 z3 z4 zl aw aB ax aC an aj;rw [show ((o*R+c)*S+n)*wd=((o*R+c)*S+n)*wd+0 from rfl] at ad
       go_loopg [47] wd (fun gg i wr=>∃ (y:Nat),y<=wd/\gg=wd - y/\i = .int .i64 (y:Int)/\Hid (I (((o*R+c)*S+n)*wd+y) wr/\Stay b w wr/\Below b w wr/\Stay b D wr))
       case atStart=>exact ⟨0,by omega,by omega,by first|rfl|simp,ad⟩
       case round=>
        obtain ⟨y,hy,aY,rfl,Hy⟩:=hrel;obtain ⟨R4,az⟩:∃ R4:World,R4=wr:=⟨_,rfl⟩
        subst az;by_cases ay:y < wd
        ·have aJ:(y:Int) < (wd:Int):=by omega
         have cK:=HK.out o c n y M ab af ay R4 Hy.out.1;obtain ⟨P1,aq⟩:∃ P,c*L+n*st+y=P:=⟨_,rfl⟩
         obtain ⟨P2,ap⟩:∃ P,(o*R+c)*wd+y=P:=⟨_,rfl⟩
         rw [aq,ap,HE.out.2.2] at cK;have aF:(AB:Int)+(y:Int)=(P1:Int):=by have:=HE.out.1;omega
         have aH:(KB:Int)+(y:Int)=(P2:Int):=by have:=HE.out.2.1;omega
         have bP:(P1:Int)<=40000/\(P2:Int)<=40000:=by omega
         clear aq ap;go_wp2_with fail
         refine cK.mono ?_;rintro e w4 ⟨rfl,hJ,ah,am⟩;have Hz:Hid (I (((o*R+c)*S+n)*wd+(y+1)) w4/\Stay b w w4/\Below b w w4/\Stay b D w4):=⟨hJ,Hy.out.2.1.trans ah,Hy.out.2.2.1.trans am,Hy.out.2.2.2.trans ah⟩
         clear hJ ah am cK;go_wp2;go_roundg (wd - (y+1))
         case measure=>omega
         case rel=>exact ⟨y+1,by omega,rfl,by first|rfl|simp,Hz⟩
        ·obtain rfl:y=wd:=by omega
         have Hz:Hid (I (((o*R+c)*S+(n+1))*y) R4/\Stay b w R4/\Below b w R4/\Stay b D R4):=⟨by rw [<- Nat.add_assoc,Nat.add_mul _ 1,Nat.one_mul];exact Hy.out.1,Hy.out.2⟩
         go_wp2;go_roundg (S - (n+1))
         case measure=>omega
         case rel=>exact ⟨n+1,by omega,rfl,by first|rfl|simp,Hz⟩
      ·obtain rfl:n=S:=by omega
       have Hz:Hid (I ((o*R+(c+1))*n*wd) R3/\Stay b w R3/\Below b w R3/\Stay b D R3):=⟨by rw [<- Nat.add_assoc,Nat.add_mul _ 1,Nat.one_mul];exact Hn.out.1,Hn.out.2⟩
       go_wp2;go_roundg (R - (c+1))
       case measure=>omega
       case rel=>exact ⟨c+1,by omega,rfl,by first|rfl|simp,Hz⟩
    ·obtain rfl:c=R:=by omega
     have Hz:Hid (I ((o+1)*c*S*wd) R2/\Stay b w R2/\Below b w R2/\Stay b D R2):=⟨by rw [Nat.add_mul,Nat.one_mul];exact Hc.out.1,Hc.out.2⟩
     go_wp2;go_roundg (O - (o+1))
     case measure=>omega
     case rel=>exact ⟨o+1,by omega,rfl,by first|rfl|simp,Hz⟩
  ·obtain rfl:o=O:=by omega
   go_wp2
   go_end0
   exact ⟨rfl,Ho.out.1,Ho.out.2.1,Ho.out.2.2.1⟩
end Go.Proofs.YtjlofobnmjompaaGreatDoor.Wd
