/- A sum along a side: that side turned to the end, then cuts. · Windows, as lists of numbers: sums in any order, sums of sums as one sum, the greatest of so many and the first place where it stands. Nothing of the program is named here. · Windows, as lists of numbers: all that meet, one behind another, summed where they go. Nothing of the program is named here. · How windows go over rows: what conv's stops, goodStep, goodLength and each do. · Sums of products gathered into a tensor: what conv's gathered does with whatever fills them. · What conv's function values do: all that meet is added where -/
import Derived.Test.YtaiigfhicaelkabGreatDoorW08
import Derived.Test.YtaiigfhicaelkabGreatDoorW04
import Derived.Test.YtaiigfhicaelkabGreatDoorW05
import Derived.Test.YtaiigfhicaelkabGreatDoorW02
import Derived.Test.YtaiigfhicaelkabGreatDoorW09
set_option linter.unusedVariables false
set_option linter.unusedSimpArgs false
set_option maxHeartbeats 16000000
set_option maxRecDepth 16000
namespace Go.Proofs.YtaiigfhicaelkabGreatDoor.Wd
open Go.RowKit Fx
theorem ord_last:∀ n,n < 5→∀ s,s < n→ordP (lastO n (s:Int)) n:=by decide +kernel
theorem last_far (n:Nat) (side:Int) (h:¬ (0≤side∧side < (n:Int))):¬ ordP (lastO n side) n:=by
 intro ho
 have h1:=ho.1
 have h2:butO n side=itl (List.range n):=by
  unfold butO
  refine List.filter_eq_self.2 fun y hy=>?_
  obtain ⟨k,hk,rfl⟩:=List.mem_map.1 hy
  have:=List.mem_range.1 hk
  simp
  omega
 unfold lastO at h1
 rw [h2,List.length_append,itl_len,List.length_range,List.length_singleton] at h1
 omega
theorem unp_last (n s:Nat) (hn:n≤4) (hs:s < n) (P:List Nat) (hP:P.length+1=n) (k:Nat):unp (ntl (lastO n (s:Int))) (P++[k]) n=insN P s k:=by
 rcases P with _|⟨a,_|⟨b,_|⟨c,_|⟨e,P⟩⟩⟩⟩
 ·simp at hP;subst hP
  obtain rfl:s=0:=by omega
  rfl
 ·simp at hP;subst hP
  obtain rfl|rfl:s=0∨s=1:=by omega
  ·rfl
  ·rfl
 ·simp at hP;subst hP
  obtain rfl|rfl|rfl:s=0∨s=1∨s=2:=by omega
  ·rfl
  ·rfl
  ·rfl
 ·simp at hP;subst hP
  obtain rfl|rfl|rfl|rfl:s=0∨s=1∨s=2∨s=3:=by omega
  ·rfl
  ·rfl
  ·rfl
  ·rfl
 ·simp at hP;omega
theorem dims_last (d:List Nat) (hd:d.length≤4) (s:Nat) (hs:s < d.length):dimsT d (ntl (lastO d.length (s:Int)))=lessN d s++[d.getD s 0]:=by
 rcases d with _|⟨a,_|⟨b,_|⟨c,_|⟨e,_|⟨f,d⟩⟩⟩⟩⟩
 ·simp at hs
 ·obtain rfl:s=0:=by simp at hs;omega
  rfl
 ·obtain rfl|rfl:s=0∨s=1:=by simp at hs;omega
  ·rfl
  ·rfl
 ·obtain rfl|rfl|rfl:s=0∨s=1∨s=2:=by simp at hs;omega
  ·rfl
  ·rfl
  ·rfl
 ·obtain rfl|rfl|rfl|rfl:s=0∨s=1∨s=2∨s=3:=by simp at hs;omega
  ·rfl
  ·rfl
  ·rfl
  ·rfl
 ·simp at hd
theorem place_app (c k:Nat) (hk:k < c):∀ (r:List Nat) (i:Nat),(∀ x,x∈r→1≤x)→i < prodN r→placeN (r++[c]) (i*c+k)=placeN r i++[k]
 | [],i,_,hi=>by
  have hi:i < 1:=hi
  obtain rfl:i=0:=by omega
  show [(0*c+k) / prodN []] = [k]
  rw [show prodN []=1 from rfl,Nat.div_one,Nat.zero_mul,Nat.zero_add]
 | x :: r,i,hp,hi=>by
  have hR:1≤prodN r:=prodN_pos fun y hy=>hp y (List.mem_cons_of_mem _ hy)
  have ih:=place_app c k hk r (i % prodN r) (fun y hy=>hp y (List.mem_cons_of_mem _ hy)) (Nat.mod_lt _ hR)
  have e:prodN (r++[c])=prodN r*c:=by rw [prodN_append];simp [prodN]
  have hc:0 < c:=by omega
  simp only [List.cons_append,placeN]
  rw [e]
  have e1:(i*c+k) / (prodN r*c)=i / prodN r:=by
   rw [Nat.mul_comm (prodN r) c,← Nat.div_div_eq_div_mul,pair_div _ _ _ hk]
  have e2:(i*c+k) % (prodN r*c)=i % prodN r*c+k:=by
   rw [Nat.mul_comm (prodN r) c,Nat.mod_mul,pair_mod _ _ _ hk,pair_div _ _ _ hk,Nat.mul_comm,Nat.add_comm]
  rw [e1,e2,ih]
/-- Where the numbers of one sum stood. -/
theorem turn_last {d:List Nat} (hd:goodN d) (s:Nat) (hs:s < d.length) (i k:Nat) (hi:i < prodN (lessN d s)) (hk:k < d.getD s 0):
  turnI d (ntl (lastO d.length (s:Int))) (i*d.getD s 0+k)=(i / prodN (d.drop (s+1))*d.getD s 0+k)*prodN (d.drop (s+1))+i % prodN (d.drop (s+1)):=by
 have h1:(placeN (lessN d s) i).length+1=d.length:=by
  rw [placeN_len]
  simp only [lessN,List.length_append,List.length_take,List.length_drop]
  omega
 unfold turnI
 rw [dims_last d hd.1 s hs,place_app _ _ hk _ _ (good_less hd s hs).2.1 hi,unp_last _ _ hd.1 hs _ h1,insN_at hd s hs i k hi]
abbrev smP (d x:List Int) (side:Int):Prop:=isP d x∧0≤side∧side < (d.length:Int)
def smE (d x:List Int) (side:Int):Int:=if smP d x side then 0 else 1
def smD (d x:List Int) (side:Int):List Int:=if smP d x side then itl (lessN (ntl d) side.toNat) else []
def smV (d x:List Int) (side:Int):List Int:=if smP d x side then sumV (ntl d) side.toNat x else []
theorem sm_none {d x:List Int} {side:Int} (h:¬ smP d x side):smE d x side=1∧smD d x side = []∧smV d x side = []∧turnE d x (lastO d.length side)=1∧turnD d x (lastO d.length side) = []∧turnV d x (lastO d.length side) = []:=by
 have ht:¬ turnP d x (lastO d.length side):=fun c=>h ⟨c.1,Classical.byContradiction fun hc=>last_far _ _ hc c.2⟩
 exact ⟨if_neg h,if_neg h,if_neg h,if_neg ht,if_neg ht,if_neg ht⟩
/-- What Turn hands back where there is such a side. -/
theorem sm_turn {a:List Nat} {x:List Int} (ga:goodN a) (hx:x.length=prodN a) (s:Nat) (hs:s < a.length):
  turnE (itl a) x (lastO a.length (s:Int))=0∧turnD (itl a) x (lastO a.length (s:Int))=itl (lessN a s++[a.getD s 0])∧(turnV (itl a) x (lastO a.length (s:Int))).length=prodN a∧
   ∀ i k,i < prodN (lessN a s)→k < a.getD s 0→(turnV (itl a) x (lastO a.length (s:Int))).getD (i*a.getD s 0+k) 0=x.getD ((i / prodN (a.drop (s+1))*a.getD s 0+k)*prodN (a.drop (s+1))+i % prodN (a.drop (s+1))) 0:=by
 have hp:turnP (itl a) x (lastO a.length (s:Int)):=by
  refine ⟨⟨by rw [ntl_itl];exact ga,by rw [ntl_itl];exact hx⟩,?_⟩
  rw [itl_len]
  exact ord_last _ (by have:=ga.1;omega) s hs
 have e:∀ o,turnP (itl a) x o→turnV (itl a) x o=(List.range (prodN a)).map fun i=>x.getD (turnI a (ntl o) i) 0:=fun o h=>by
  unfold turnV
  rw [if_pos h,ntl_itl]
 refine ⟨if_pos hp,?_,?_,fun i k hi hk=>?_⟩
 ·unfold turnD
  rw [if_pos hp,ntl_itl,dims_last a ga.1 s hs]
 ·rw [e _ hp];simp
 ·have hlt:i*a.getD s 0+k < prodN a:=by
   rw [← prodN_less a s hs]
   exact pair_lt hi hk
  rw [e _ hp,getD_map_range _ _ _ _ hlt,turn_last ga s hs i k hi hk]
theorem sumI_zero:∀ n,sumI (fun _=>0) n=0
 | 0=>rfl
 | n+1=>by rw [sumI,sumI_zero n];rfl
theorem sumI_none {f:Nat→Int} (n:Nat) (h:∀ k,k < n→f k=0):sumI f n=0:=by rw [sumI_congr n h,sumI_zero]
theorem sumI_add (f g:Nat→Int):∀ n,sumI (fun k=>f k+g k) n=sumI f n+sumI g n
 | 0=>rfl
 | n+1=>by rw [sumI,sumI,sumI,sumI_add f g n];omega
theorem sumI_split (f:Nat→Int) (n:Nat):∀ m,sumI f (n+m)=sumI f n+sumI (fun k=>f (n+k)) m
 | 0=>by simp [sumI]
 | m+1=>by rw [← Nat.add_assoc,sumI,sumI_split f n m,sumI];omega
/-- Two sums, the one in the other, in either order. -/
theorem sumI_swap (f:Nat→Nat→Int) (n:Nat):∀ m,sumI (fun i=>sumI (fun j=>f i j) n) m=sumI (fun j=>sumI (fun i=>f i j) m) n
 | 0=>by simp only [sumI];rw [sumI_zero]
 | m+1=>by
  rw [sumI,sumI_swap f n m,← sumI_add]
  rfl
/-- Of a sum where one place alone counts: what stands there. -/
theorem sumI_one (f:Nat→Int) (j:Nat) (n:Nat) (h:∀ k,k < n→k≠j→f k=0):sumI f n=if j < n then f j else 0:=by
 rw [← sumI_pick (f j) j n]
 refine sumI_congr n fun k hk=>?_
 by_cases e:k=j
 ·rw [if_pos e,e]
 ·rw [if_neg e,h k hk e]
/-- A sum of sums of w each, as one. -/
def flatS (f:Nat→Nat→Int) (w m:Nat):Int:=sumI (fun q=>f (q / w) (q % w)) m
theorem flat_sum (f:Nat→Nat→Int) (w:Nat):∀ c,flatS f w (c*w)=sumI (fun x=>sumI (fun y=>f x y) w) c
 | 0=>by rw [Nat.zero_mul];rfl
 | c+1=>by
  rw [sumI,← flat_sum f w c,Nat.add_mul,Nat.one_mul]
  show sumI _ (c*w+w)=sumI _ (c*w)+_
  rw [sumI_split]
  congr 1
  refine sumI_congr w fun y hy=>?_
  rw [pair_div _ _ _ hy,pair_mod _ _ _ hy]
/-- Where the greatest of v's m + 1 numbers from b on stands first. -/
def bestK (v:List Int) (b:Nat):Nat→Nat
 | 0=>b
 | m+1=>if v.getD (bestK v b m) 0 < v.getD (b+(m+1)) 0 then b+(m+1) else bestK v b m
theorem bestK_in (v:List Int) (b:Nat):∀ m,b≤bestK v b m∧bestK v b m≤b+m
 | 0=>⟨Nat.le_refl _,Nat.le_refl _⟩
 | m+1=>by
  have:=bestK_in v b m
  rw [bestK]
  split <;> omega
/-- A Row's number: c rows of l, windows of c by w, at step. -/
def convN (c l w n step:Nat) (a k:List Int) (q:Nat):Int:=rnd (flatS (fun x y=>a.getD (x*l+q % n*step+y) 0*k.getD ((q / n*c+x)*w+y) 0) w (c*w))
def convV (c l w o n step:Nat) (a k:List Int):List Int:=(List.range (o*n)).map (convN c l w n step a k)
theorem convV_len (c l w o n step:Nat) (a k:List Int):(convV c l w o n step a k).length=o*n:=by simp [convV]
/-- What a gradient gives for the rows: one product, where the window's place j comes to l. -/
def bkT (c n w step:Nat) (g k:List Int) (x l i j:Nat):Int:=if j*step≤l∧l - j*step < w then g.getD (i*n+j) 0*k.getD ((i*c+x)*w+(l - j*step)) 0 else 0
def gradN (o c n w step long:Nat) (g k:List Int) (q:Nat):Int:=rnd (sumI (fun j=>sumI (fun i=>bkT c n w step g k (q / long) (q % long) i j) o) n)
def gradV (o c n w step long:Nat) (g k:List Int):List Int:=(List.range (c*long)).map (gradN o c n w step long g k)
theorem gradV_len (o c n w step long:Nat) (g k:List Int):(gradV o c n w step long g k).length=c*long:=by simp [gradV]
theorem back_swap (o c n w step long:Nat) (g k:List Int) (q:Nat):gradN o c n w step long g k q=rnd (sumI (fun i=>sumI (fun j=>bkT c n w step g k (q / long) (q % long) i j) n) o):=by
 unfold gradN
 rw [sumI_swap]
/-- The same, over all numbers of the window. -/
theorem bk_window (c n w step:Nat) (g k:List Int) (x l i j:Nat):bkT c n w step g k x l i j=sumI (fun y=>if j*step+y=l then g.getD (i*n+j) 0*k.getD ((i*c+x)*w+y) 0 else 0) w:=by
 unfold bkT
 by_cases h1:j*step≤l
 ·rw [sumI_one _ (l - j*step) w fun y hy hne=>by rw [if_neg (by omega)]]
  by_cases h2:l - j*step < w
  ·rw [if_pos ⟨h1,h2⟩,if_pos h2,if_pos (by omega)]
  ·rw [if_neg (fun c=>h2 c.2),if_neg h2]
 ·rw [if_neg (fun c=>h1 c.1),sumI_none w fun y hy=>by rw [if_neg (by omega)]]
/-- What a gradient gives for the windows. -/
def kerN (c n l wide step:Nat) (g a:List Int) (q:Nat):Int:=rnd (sumI (fun j=>g.getD (q / wide / c*n+j) 0*a.getD (q / wide % c*l+j*step+q % wide) 0) n)
def kerV (o c n l wide step:Nat) (g a:List Int):List Int:=(List.range (o*c*wide)).map (kerN c n l wide step g a)
theorem kerV_len (o c n l wide step:Nat) (g a:List Int):(kerV o c n l wide step g a).length=o*c*wide:=by simp [kerV]
/-- The greatest of each wide numbers: where they stand, and they. -/
def poolP (l n wide:Nat) (v:List Int) (q:Nat):Nat:=bestK v (q / n*l+q % n*wide) (wide - 1)
def poolA (c l n wide:Nat) (v:List Int):List Int:=(List.range (c*n)).map fun q=>((poolP l n wide v q:Nat):Int)
def poolV (c l n wide:Nat) (v:List Int):List Int:=(List.range (c*n)).map fun q=>v.getD (poolP l n wide v q) 0
theorem poolA_len (c l n wide:Nat) (v:List Int):(poolA c l n wide v).length=c*n:=by simp [poolA]
theorem poolV_len (c l n wide:Nat) (v:List Int):(poolV c l n wide v).length=c*n:=by simp [poolV]
theorem pool_lt {c l n wide q:Nat} (v:List Int) (hq:q < c*n) (hw:1≤wide) (hn:n*wide≤l):q / n*l+q % n*wide+wide≤c*l∧poolP l n wide v q < c*l:=by
 have hq':q < n*c:=by rw [Nat.mul_comm];exact hq
 have hn0:=side_pos hq'
 have h1:q / n < c:=div_side hq'
 have h2:q % n < n:=Nat.mod_lt _ hn0
 have h3:(q % n+1)*wide≤n*wide:=Nat.mul_le_mul_right _ h2
 have h4:(q / n+1)*l≤c*l:=Nat.mul_le_mul_right _ h1
 rw [Nat.add_mul,Nat.one_mul] at h3 h4
 have h5:=(bestK_in v (q / n*l+q % n*wide) (wide - 1)).2
 unfold poolP
 omega
/-- How many stops. -/
def stopsN (L wd st:Nat):Nat:=(L - wd) / st+1
/-- A sum of sums of sums of sums, as one. -/
def flat4 (f:Nat→Nat→Nat→Nat→Int) (R S w q:Nat):Int:=sumI (fun t=>f (t / w / S / R) (t / w / S % R) (t / w % S) (t % w)) q
theorem flat4_step (f:Nat→Nat→Nat→Nat→Int) {R S w o c n y:Nat} (hc:c < R) (hn:n < S) (hy:y < w):flat4 f R S w (((o*R+c)*S+n)*w+(y+1))=flat4 f R S w (((o*R+c)*S+n)*w+y)+f o c n y:=by
 show sumI _ (((o*R+c)*S+n)*w+y+1)=_
 rw [sumI,pair_div _ _ _ hy,pair_mod _ _ _ hy,pair_div _ _ _ hn,pair_mod _ _ _ hn,pair_div _ _ _ hc,pair_mod _ _ _ hc]
 rfl
theorem flat4_sum (f:Nat→Nat→Nat→Nat→Int) (O R S w:Nat):flat4 f R S w (O*R*S*w)=sumI (fun o=>sumI (fun c=>sumI (fun n=>sumI (fun y=>f o c n y) w) S) R) O:=by
 have h1:flat4 f R S w (O*R*S*w)=flatS (fun a y=>f (a / S / R) (a / S % R) (a % S) y) w (O*R*S*w):=rfl
 have h2:sumI (fun a=>sumI (fun y=>f (a / S / R) (a / S % R) (a % S) y) w) (O*R*S)=flatS (fun b n=>sumI (fun y=>f (b / R) (b % R) n y) w) S (O*R*S):=rfl
 have h3:sumI (fun b=>sumI (fun n=>sumI (fun y=>f (b / R) (b % R) n y) w) S) (O*R)=flatS (fun o c=>sumI (fun n=>sumI (fun y=>f o c n y) w) S) R (O*R):=rfl
 rw [h1,flat_sum,h2,flat_sum,h3,flat_sum]
theorem pair_eq {o S n i:Nat} (hn:n < S) (h:o*S+n=i):o=i / S∧n=i % S:=by
 subst h
 exact ⟨(pair_div _ _ _ hn).symm,(pair_mod _ _ _ hn).symm⟩
theorem pair_back (i S:Nat):i / S*S+i % S=i:=by rw [Nat.mul_comm];exact Nat.div_add_mod i S
/-- What meets at a number of Row. -/
def rowT (L R S w st:Nat) (a k:List Int) (i o c n y:Nat):Int:=if o*S+n=i then a.getD (c*L+n*st+y) 0*k.getD ((o*R+c)*w+y) 0 else 0
theorem row_total {L O R S w st i:Nat} (a k:List Int) (hi:i < O*S):rnd (flat4 (rowT L R S w st a k i) R S w (O*R*S*w))=convN R L w S st a k i:=by
 have hi':i < S*O:=by rw [Nat.mul_comm];exact hi
 have hS:=side_pos hi'
 rw [flat4_sum,sumI_one _ (i / S) O fun o ho hne=>?_,if_pos (div_side hi')]
 ·unfold convN
  congr 1
  rw [flat_sum]
  refine sumI_congr R fun c hc=>?_
  rw [sumI_one _ (i % S) S fun n hn hne=>?_,if_pos (Nat.mod_lt _ hS)]
  ·refine sumI_congr w fun y hy=>?_
   unfold rowT
   rw [if_pos (pair_back i S)]
  ·refine sumI_none w fun y hy=>?_
   unfold rowT
   rw [if_neg fun h=>hne (pair_eq hn h).2]
 ·refine sumI_none R fun c hc=>sumI_none S fun n hn=>sumI_none w fun y hy=>?_
  unfold rowT
  rw [if_neg fun h=>hne (pair_eq hn h).1]
/-- What meets at a number of BackIn. -/
def inT (L R S w st:Nat) (g k:List Int) (i o c n y:Nat):Int:=if c*L+n*st+y=i then g.getD (o*S+n) 0*k.getD ((o*R+c)*w+y) 0 else 0
theorem in_total {L O R S w st i:Nat} (g k:List Int) (hi:i < R*L) (hL:∀ n,n < S→n*st+w≤L):rnd (flat4 (inT L R S w st g k i) R S w (O*R*S*w))=gradN O R S w st L g k i:=by
 have hi':i < L*R:=by rw [Nat.mul_comm];exact hi
 have hL0:=side_pos hi'
 rw [flat4_sum,back_swap]
 congr 1
 refine sumI_congr O fun o ho=>?_
 rw [sumI_one _ (i / L) R fun c hc hne=>?_,if_pos (div_side hi')]
 ·refine sumI_congr S fun n hn=>?_
  rw [bk_window]
  refine sumI_congr w fun y hy=>?_
  unfold inT
  have hb:=pair_back i L
  have h1:=hL n hn
  by_cases h:n*st+y=i % L
  ·rw [if_pos (by omega),if_pos h]
  ·rw [if_neg (by omega),if_neg h]
 ·refine sumI_none S fun n hn=>sumI_none w fun y hy=>?_
  unfold inT
  have h1:=hL n hn
  rw [if_neg fun h=>hne (pair_eq (n:=n*st+y) (by omega) (by rw [← Nat.add_assoc];exact h)).1]
/-- What meets at a number of BackKernel. -/
def kerT (L R S w st:Nat) (g a:List Int) (i o c n y:Nat):Int:=if (o*R+c)*w+y=i then g.getD (o*S+n) 0*a.getD (c*L+n*st+y) 0 else 0
theorem ker_total {L O R S w st i:Nat} (g a:List Int) (hi:i < O*R*w):rnd (flat4 (kerT L R S w st g a i) R S w (O*R*S*w))=kerN R S L w st g a i:=by
 have hi':i < w*(O*R):=by rw [Nat.mul_comm];exact hi
 have hw:=side_pos hi'
 have hq:i / w < R*O:=by rw [Nat.mul_comm R O];exact div_side hi'
 have hR:=side_pos hq
 have key:∀ o c y,c < R→y < w→(o*R+c)*w+y=i→o=i / w / R∧c=i / w % R∧y=i % w:=by
  intro o c y hc hy h
  have h1:=pair_eq hy h
  have h2:=pair_eq hc h1.1
  exact ⟨h2.1,h2.2,h1.2⟩
 rw [flat4_sum,sumI_one _ (i / w / R) O fun o ho hne=>?_,if_pos (div_side hq)]
 ·rw [sumI_one _ (i / w % R) R fun c hc hne=>?_,if_pos (Nat.mod_lt _ hR)]
  ·unfold kerN
   congr 1
   refine sumI_congr S fun n hn=>?_
   rw [sumI_one _ (i % w) w fun y hy hne=>?_,if_pos (Nat.mod_lt _ hw)]
   ·unfold kerT
    rw [if_pos (by rw [pair_back,pair_back])]
   ·unfold kerT
    rw [if_neg fun h=>hne (key _ _ _ (Nat.mod_lt _ hR) hy h).2.2]
  ·refine sumI_none S fun n hn=>sumI_none w fun y hy=>?_
   unfold kerT
   rw [if_neg fun h=>hne (key _ _ _ hc hy h).2.1]
 ·refine sumI_none R fun c hc=>sumI_none S fun n hn=>sumI_none w fun y hy=>?_
  unfold kerT
  rw [if_neg fun h=>hne (key _ _ _ hc hy h).1]
theorem stops_any (R L O wd st:Nat) (h1:wd≤L) (h2:L≤4096) (h3:1≤st) (h4:st≤64) (w:World):
  Calls Tryz.prog 99 #[.agg #[.int .i64 (R:Int),.int .i64 (L:Int),.int .i64 (O:Int),.int .i64 (wd:Int),.int .i64 (st:Int)]] w fun e w'=>e = .returned (.int .i64 (stopsN L wd st:Nat))∧Below w.heap.size w w':=by
 obtain ⟨D,eD⟩:∃ D,L - wd=D:=⟨_,rfl⟩
 have eD':(L:Int) - (wd:Int)=(D:Int):=by omega
 obtain ⟨q,eq⟩:∃ q,D / st=q:=⟨_,rfl⟩
 have eq':(D:Int) / (st:Int)=(q:Int):=by rw [← eq];rfl
 have hq:q≤D:=by rw [← eq];exact Nat.div_le_self _ _
 have hq':(q:Int)≤4096:=by omega
 have hD':(D:Int)≤4096:=by omega
 have hL':(L:Int)≤4096:=by omega
 have hw':(wd:Int)≤4096:=by omega
 have hs':1≤(st:Int)∧(st:Int)≤64:=by omega
 have eS:((stopsN L wd st:Nat):Int)=(q:Int)+1:=by unfold stopsN;rw [eD,eq];rfl
 rw [eS]
 clear eS eD eq
 go_enter Tryz.func99,Tryz.ntmps99
 go_wp2
 go_ret
 exact ⟨rfl,by go_grown⟩
theorem goodStep_any (st:Int) (w:World):
  Calls Tryz.prog 97 #[.int .i64 st] w fun e w'=>e = .returned (.bool (decide (1≤st∧st≤64)))∧Below w.heap.size w w':=by
 by_cases h1:1≤st
 ·by_cases h2:st≤64
  ·rw [decide_eq_true ⟨h1,h2⟩]
   go_enter Tryz.func97,Tryz.ntmps97
   go_wp2
   go_ret
   exact ⟨rfl,by go_grown⟩
  ·rw [decide_eq_false fun h=>h2 h.2]
   go_enter Tryz.func97,Tryz.ntmps97
   go_wp2
   go_ret
   exact ⟨rfl,by go_grown⟩
 ·rw [decide_eq_false fun h=>h1 h.1]
  go_enter Tryz.func97,Tryz.ntmps97
  go_wp2
  go_ret
  exact ⟨rfl,by go_grown⟩
theorem goodLength_any (n:Int) (w:World):
  Calls Tryz.prog 181 #[.int .i64 n] w fun e w'=>e = .returned (.bool (decide (1≤n∧n≤4096)))∧Below w.heap.size w w':=by
 by_cases h1:1≤n
 ·by_cases h2:n≤4096
  ·rw [decide_eq_true ⟨h1,h2⟩]
   go_enter Tryz.func181,Tryz.ntmps181
   go_wp2
   go_ret
   exact ⟨rfl,by go_grown⟩
  ·rw [decide_eq_false fun h=>h2 h.2]
   go_enter Tryz.func181,Tryz.ntmps181
   go_wp2
   go_ret
   exact ⟨rfl,by go_grown⟩
 ·rw [decide_eq_false fun h=>h1 h.1]
  go_enter Tryz.func181,Tryz.ntmps181
  go_wp2
  go_ret
  exact ⟨rfl,by go_grown⟩
/-- A slide's numbers, in a block. -/
def SlC (W:World) (b R L O wd st:Nat):Prop:=
 W.cell? ⟨b,0,none⟩=some (.int .i64 (R:Int))∧W.cell? ⟨b,1,none⟩=some (.int .i64 (L:Int))∧W.cell? ⟨b,2,none⟩=some (.int .i64 (O:Int))∧W.cell? ⟨b,3,none⟩=some (.int .i64 (wd:Int))∧W.cell? ⟨b,4,none⟩=some (.int .i64 (st:Int))
theorem SlC.up {W W':World} {b R L O wd st:Nat} (h:SlC W b R L O wd st) (hB:Below W.heap.size W W'):SlC W' b R L O wd st:=
 ⟨cell_low h.1 hB,cell_low h.2.1 hB,cell_low h.2.2.1 hB,cell_low h.2.2.2.1 hB,cell_low h.2.2.2.2 hB⟩
theorem SlC.stay {W W':World} {g b R L O wd st:Nat} (h:SlC W b R L O wd st) (hs:Stay g W W') (hg:b≠g):SlC W' b R L O wd st:=
 ⟨hs.cell h.1 hg,hs.cell h.2.1 hg,hs.cell h.2.2.1 hg,hs.cell h.2.2.2.1 hg,hs.cell h.2.2.2.2 hg⟩
theorem ceach_any (K:FuncId) (hEnt:∀ args W,(callFunc K args).run Tryz.prog W = .ok (.enter K args) W) (u0 u1 u2:Value) (b R L O wd st S:Nat) (hS:stopsN L wd st=S) (h1:wd≤L) (h2:L≤4096) (h3:1≤st) (h4:st≤64) (h5:O*R*wd≤4096) (h6:O*S≤4096) (h7:R*L≤4096) (h8:O≤4096) (h9:R≤4096)
  (I:Nat→World→Prop) (hI:∀ q W W',I q W→Below W.heap.size W W'→I q W')
  (hK:∀ o c n y,o < O→c < R→n < S→y < wd→∀ W,I (((o*R+c)*S+n)*wd+y) W→Calls Tryz.prog K #[.int .i64 ((c*L+n*st+y:Nat):Int),.int .i64 (((o*R+c)*wd+y:Nat):Int),.int .i64 ((o*S+n:Nat):Int),u0,u1,u2] W fun e w'=>e = .returned (.tuple #[])∧I (((o*R+c)*S+n)*wd+(y+1)) w'∧Stay b W w'∧Below b W w')
  (w:World) (hb:b < w.heap.size) (h0:I 0 w):
  Calls Tryz.prog 101 #[.agg #[.int .i64 (R:Int),.int .i64 (L:Int),.int .i64 (O:Int),.int .i64 (wd:Int),.int .i64 (st:Int)],.func (.func K) #[] #[u0,u1,u2]] w fun e w'=>e = .returned (.tuple #[])∧I (O*R*S*wd) w'∧Stay b w w'∧Below b w w':=by
 have cS:∀ W:World,Calls Tryz.prog 99 #[.agg #[.int .i64 (R:Int),.int .i64 (L:Int),.int .i64 (O:Int),.int .i64 (wd:Int),.int .i64 (st:Int)]] W fun e w'=>e = .returned (.int .i64 (S:Int))∧Below W.heap.size W w':=fun W=>by rw [← hS];exact stops_any R L O wd st h1 h2 h3 h4 W
 have HI:Hid (∀ q W W',I q W→Below W.heap.size W W'→I q W'):=hI
 have HK:Hid (∀ o c n y,o < O→c < R→n < S→y < wd→∀ W,I (((o*R+c)*S+n)*wd+y) W→Calls Tryz.prog K #[.int .i64 ((c*L+n*st+y:Nat):Int),.int .i64 (((o*R+c)*wd+y:Nat):Int),.int .i64 ((o*S+n:Nat):Int),u0,u1,u2] W fun e w'=>e = .returned (.tuple #[])∧I (((o*R+c)*S+n)*wd+(y+1)) w'∧Stay b W w'∧Below b W w'):=hK
 have H0:Hid (I 0 w):=h0
 have HR:Hid ((∀ n,n < S→n*st+wd≤L)∧O*R*wd≤4096∧O*S≤4096∧R*L≤4096):=⟨fun n hn=>by
  unfold stopsN at hS
  have:n≤(L - wd) / st:=by omega
  have:=(Nat.le_div_iff_mul_le (by omega)).1 this
  omega,h5,h6,h7⟩
 have hS1:S≤4097:=by rw [← hS];unfold stopsN;have:=Nat.div_le_self (L - wd) st;omega
 have h1':(wd:Int)≤4096∧(L:Int)≤4096∧1≤(st:Int)∧(st:Int)≤64∧(O:Int)≤4096∧(R:Int)≤4096∧(S:Int)≤4097:=by omega
 obtain ⟨h1a,h1b,h1c,h1d,h1e,h1f,h1g⟩:=h1'
 clear hI hK h0 h5 h6 h7 hS h1 h2 h3 h4
 haveI:Nonempty World:=⟨w⟩
 go_enter Tryz.func101,Tryz.ntmps101
 go_wp2_with fail
 generalize hW0:World.alloc _ _=W0
 have hC0:Below w.heap.size w W0:=by rw [← hW0];exact up_alloc w _
 have X0:SlC W0 w.heap.size R L O wd st:=by unfold SlC;rw [← hW0];simp [go_sem]
 clear hW0
 refine (cS W0).mono ?_
 rintro e w1 ⟨rfl,hB1⟩
 have hB:Below w.heap.size w w1:=bstep hC0 hB1
 have HX:Hid (SlC w1 w.heap.size R L O wd st∧b < w.heap.size):=⟨X0.up hB1,hb⟩
 have H1:Hid (I (0*R*S*wd) w1∧Stay b w w1∧Below b w w1):=⟨by rw [Nat.zero_mul,Nat.zero_mul,Nat.zero_mul];exact HI.out _ _ _ H0.out hB,Stay.of hB,hB.mono (Nat.le_of_lt hb)⟩
 clear hC0 X0 hB1 hB cS hb H0
 obtain ⟨z0,z1,z2,z3,z4⟩:=HX.out.1
 have zl:=cell_lt z0
 obtain ⟨G,eG⟩:∃ G,w.heap.size=G:=⟨_,rfl⟩
 rw [eG] at z0 z1 z2 z3 z4 HX ⊢
 clear eG
 go_wp2_with fail
 clear z0 z1 z2 z3 z4 zl
 go_loopg [15] O (fun gg i wr=>∃ (o:Nat),o≤O∧gg=O - o∧i = .int .i64 (o:Int)∧Hid (I (o*R*S*wd) wr∧Stay b w wr∧Below b w wr∧Stay b w1 wr))
 case atStart=>exact ⟨0,by omega,by omega,by first|rfl|simp,H1.out.1,H1.out.2.1,H1.out.2.2,Stay.refl _ _⟩
 case round=>
  obtain ⟨o,ho,hgo,rfl,Ho⟩:=hrel
  obtain ⟨R1,hR1⟩:∃ R1:World,R1=wr:=⟨_,rfl⟩
  subst hR1
  by_cases hon:o < O
  ·have ho':(o:Int) < (O:Int):=by omega
   obtain ⟨z0,z1,z2,z3,z4⟩:=HX.out.1.stay Ho.out.2.2.2 (by have:=HX.out.2;omega)
   have zl:=cell_lt z0
   go_wp2_with fail
   clear z0 z1 z2 z3 z4 zl
   rw [show o*R*S=(o*R+0)*S from rfl] at Ho
   go_loopg [20] R (fun gg i wr=>∃ (c:Nat),c≤R∧gg=R - c∧i = .int .i64 (c:Int)∧Hid (I ((o*R+c)*S*wd) wr∧Stay b w wr∧Below b w wr∧Stay b w1 wr))
   case atStart=>exact ⟨0,by omega,by omega,by first|rfl|simp,Ho⟩
   case round=>
    obtain ⟨c,hc,hgc,rfl,Hc⟩:=hrel
    obtain ⟨R2,hR2⟩:∃ R2:World,R2=wr:=⟨_,rfl⟩
    subst hR2
    by_cases hcn:c < R
    ·have hc':(c:Int) < (R:Int):=by omega
     go_wp2_with fail
     rw [show (o*R+c)*S=(o*R+c)*S+0 from rfl] at Hc
     go_loopg [24] S (fun gg i wr=>∃ (n:Nat),n≤S∧gg=S - n∧i = .int .i64 (n:Int)∧Hid (I (((o*R+c)*S+n)*wd) wr∧Stay b w wr∧Below b w wr∧Stay b w1 wr))
     case atStart=>exact ⟨0,by omega,by omega,by first|rfl|simp,Hc⟩
     case round=>
      obtain ⟨n,hn,hgn,rfl,Hn⟩:=hrel
      obtain ⟨R3,hR3⟩:∃ R3:World,R3=wr:=⟨_,rfl⟩
      subst hR3
      by_cases hnn:n < S
      ·have hn':(n:Int) < (S:Int):=by omega
       obtain ⟨z0,z1,z2,z3,z4⟩:=HX.out.1.stay Hn.out.2.2.2 (by have:=HX.out.2;omega)
       have zl:=cell_lt z0
       have b1:=HR.out.1 n hnn
       have b2:(c+1)*L≤R*L:=Nat.mul_le_mul_right L hcn
       have b3:(o*R+c+1)*wd≤O*R*wd:=Nat.mul_le_mul_right wd (pair_lt hon hcn)
       have b4:o*S+n < O*S:=pair_lt hon hnn
       have b5:=HR.out.2
       rw [Nat.add_mul,Nat.one_mul] at b2 b3
       have b6:=pair_lt hon hcn
       have b7:o*R≤O*R:=Nat.mul_le_mul_right R (Nat.le_of_lt hon)
       have b8:O*R≤16777216:=Nat.mul_le_mul h8 h9
       obtain ⟨A,eA⟩:∃ A,c*L=A:=⟨_,rfl⟩
       obtain ⟨B,eB⟩:∃ B,n*st=B:=⟨_,rfl⟩
       obtain ⟨C,eC⟩:∃ C,o*R=C:=⟨_,rfl⟩
       obtain ⟨OR,eOR⟩:∃ C,O*R=C:=⟨_,rfl⟩
       obtain ⟨RL,eRL⟩:∃ C,R*L=C:=⟨_,rfl⟩
       have eA':(c:Int)*(L:Int)=(A:Int):=by rw [← eA];push_cast;rfl
       have eB':(n:Int)*(st:Int)=(B:Int):=by rw [← eB];push_cast;rfl
       have eC':(o:Int)*(R:Int)=(C:Int):=by rw [← eC];push_cast;rfl
       rw [eC] at b3 b6 b7
       rw [eA,eRL] at b2
       rw [eB] at b1
       rw [eOR] at b6 b7 b8
       rw [eRL] at b5
       obtain ⟨E,eE⟩:∃ E,C+c=E:=⟨_,rfl⟩
       have eE':(C:Int)+(c:Int)=(E:Int):=by omega
       obtain ⟨AB,eAB⟩:∃ E,A+B=E:=⟨_,rfl⟩
       have eAB':(A:Int)+(B:Int)=(AB:Int):=by omega
       rw [eE] at b3 b6
       obtain ⟨KB,eKB⟩:∃ E',E*wd=E':=⟨_,rfl⟩
       have eKB':(E:Int)*(wd:Int)=(KB:Int):=by rw [← eKB];push_cast;rfl
       rw [eKB] at b3
       obtain ⟨OS,eOS⟩:∃ E',o*S=E':=⟨_,rfl⟩
       have eOS':(o:Int)*(S:Int)=(OS:Int):=by rw [← eOS];push_cast;rfl
       obtain ⟨Q,eQ⟩:∃ E',OS+n=E':=⟨_,rfl⟩
       have eQ':(OS:Int)+(n:Int)=(Q:Int):=by omega
       rw [eOS,eQ] at b4
       have HE:Hid (c*L+n*st=AB∧(o*R+c)*wd=KB∧o*S+n=Q):=⟨by rw [eA,eB,eAB],by rw [eC,eE,eKB],by rw [eOS,eQ]⟩
       have bd1:(A:Int)≤10000∧(B:Int)≤10000∧(C:Int)≤16777216∧(E:Int)≤16777217:=by omega
       have bd2:(AB:Int)+(wd:Int)≤20000∧(KB:Int)+(wd:Int)≤20000∧(Q:Int)≤20000∧(OS:Int)≤20000:=by omega
       clear eA eB eC eOR eRL eE eAB eKB eOS eQ b1 b2 b3 b4 b5 b6 b7 b8
       go_wp2_with fail
       go_quiet (fail)
       generalize hw5:World.drewN R3 nq=w5
       have hB5:Below R3.heap.size R3 w5:=by rw [← hw5];exact below_drew (Below.refl _ _) nq
       have Hn5:Hid (I (((o*R+c)*S+n)*wd) w5∧Stay b w w5∧Below b w w5∧Stay b w1 w5):=⟨HI.out _ _ _ Hn.out.1 hB5,Hn.out.2.1.up hB5,Hn.out.2.2.1.trans (hB5.mono (by have h:=HX.out.2;have h2:=cell_lt z0;omega)),Hn.out.2.2.2.up hB5⟩
       clear hw5 hB5 z0 z1 z2 z3 z4 zl
       obtain ⟨z0,z1,z2,z3,z4⟩:=HX.out.1.stay Hn5.out.2.2.2 (by have:=HX.out.2;omega)
       have zl:=cell_lt z0
       go_wp2_with fail
       clear z0 z1 z2 z3 z4 zl eA' eB' eC' eE' eAB' eKB'
       rw [show ((o*R+c)*S+n)*wd=((o*R+c)*S+n)*wd+0 from rfl] at Hn5
       go_loopg [47] wd (fun gg i wr=>∃ (y:Nat),y≤wd∧gg=wd - y∧i = .int .i64 (y:Int)∧Hid (I (((o*R+c)*S+n)*wd+y) wr∧Stay b w wr∧Below b w wr∧Stay b w1 wr))
       case atStart=>exact ⟨0,by omega,by omega,by first|rfl|simp,Hn5⟩
       case round=>
        obtain ⟨y,hy,hgy,rfl,Hy⟩:=hrel
        obtain ⟨R4,hR4⟩:∃ R4:World,R4=wr:=⟨_,rfl⟩
        subst hR4
        by_cases hyn:y < wd
        ·have hy':(y:Int) < (wd:Int):=by omega
         have cK:=HK.out o c n y hon hcn hnn hyn R4 Hy.out.1
         obtain ⟨P1,eP1⟩:∃ P,c*L+n*st+y=P:=⟨_,rfl⟩
         obtain ⟨P2,eP2⟩:∃ P,(o*R+c)*wd+y=P:=⟨_,rfl⟩
         rw [eP1,eP2,HE.out.2.2] at cK
         have eP1':(AB:Int)+(y:Int)=(P1:Int):=by have:=HE.out.1;omega
         have eP2':(KB:Int)+(y:Int)=(P2:Int):=by have:=HE.out.2.1;omega
         have bP:(P1:Int)≤40000∧(P2:Int)≤40000:=by omega
         clear eP1 eP2
         go_wp2_with fail
         refine cK.mono ?_
         rintro e w4 ⟨rfl,hJ,hSt,hBl⟩
         have Hz:Hid (I (((o*R+c)*S+n)*wd+(y+1)) w4∧Stay b w w4∧Below b w w4∧Stay b w1 w4):=⟨hJ,Hy.out.2.1.trans hSt,Hy.out.2.2.1.trans hBl,Hy.out.2.2.2.trans hSt⟩
         clear hJ hSt hBl cK
         go_wp2
         go_roundg (wd - (y+1))
         case measure=>omega
         case rel=>exact ⟨y+1,by omega,rfl,by first|rfl|simp,Hz⟩
        ·obtain rfl:y=wd:=by omega
         have Hz:Hid (I (((o*R+c)*S+(n+1))*y) R4∧Stay b w R4∧Below b w R4∧Stay b w1 R4):=⟨by rw [← Nat.add_assoc,Nat.add_mul _ 1,Nat.one_mul];exact Hy.out.1,Hy.out.2⟩
         go_wp2
         go_roundg (S - (n+1))
         case measure=>omega
         case rel=>exact ⟨n+1,by omega,rfl,by first|rfl|simp,Hz⟩
      ·obtain rfl:n=S:=by omega
       have Hz:Hid (I ((o*R+(c+1))*n*wd) R3∧Stay b w R3∧Below b w R3∧Stay b w1 R3):=⟨by rw [← Nat.add_assoc,Nat.add_mul _ 1,Nat.one_mul];exact Hn.out.1,Hn.out.2⟩
       go_wp2
       go_roundg (R - (c+1))
       case measure=>omega
       case rel=>exact ⟨c+1,by omega,rfl,by first|rfl|simp,Hz⟩
    ·obtain rfl:c=R:=by omega
     have Hz:Hid (I ((o+1)*c*S*wd) R2∧Stay b w R2∧Below b w R2∧Stay b w1 R2):=⟨by rw [Nat.add_mul,Nat.one_mul];exact Hc.out.1,Hc.out.2⟩
     go_wp2
     go_roundg (O - (o+1))
     case measure=>omega
     case rel=>exact ⟨o+1,by omega,rfl,by first|rfl|simp,Hz⟩
  ·obtain rfl:o=O:=by omega
   go_wp2
   go_end0
   exact ⟨rfl,Ho.out.1,Ho.out.2.1,Ho.out.2.2.1⟩
theorem infoS:∃ i0,Tryz.prog.info? 143=some i0∧i0.zero=some (.agg #[.int .i64 0,.int .u64 0,.int .i64 0,.int .u64 0])∧i0.size=4∧i0.bytes=32:=by
 have h:(Tryz.prog.info? 143).map (fun i=>(i.zero,i.size,i.bytes))=some (some (.agg #[.int .i64 0,.int .u64 0,.int .i64 0,.int .u64 0]),4,32):=by kernel_rfl
 cases h0:Tryz.prog.info? 143 with
 | none=>rw [h0] at h;cases h
 | some i=>
  rw [h0] at h
  simp only [Option.map_some,Option.some.injEq,Prod.mk.injEq] at h
  exact ⟨i,rfl,h.1,h.2.1,h.2.2⟩
/-- Sums that were just made: all 0. -/
theorem made_sums {W:World} {B g n:Nat} {e:TypeId} (h:W.ownsRow B e 4 (.slice (some ⟨g,0,none⟩) n n) n (madeCells (Value.agg #[.int .i64 0,.int .u64 0,.int .i64 0,.int .u64 0]).cells (n*4)).toList):∀ i,i < n→SumAt W g (i*4) 0 0:=by
 intro i hi
 have hf:∀ j,W.frozen? ⟨g,j,none⟩=false:=by
  intro j
  rcases h.2 with ⟨h1,_⟩|⟨q,cap,cur,h1,h2,h3,_⟩
  ·cases h1
  ·cases h1
   unfold World.frozen?
   simp [h3]
 have hz:∀ r,r < 4→(madeCells (Value.agg #[.int .i64 0,.int .u64 0,.int .i64 0,.int .u64 0]).cells (n*4)).toList[i*4+r]?=(#[Value.int .i64 0,.int .u64 0,.int .i64 0,.int .u64 0]:Array Value)[r]?:=by
  intro r hr
  have e0:(Value.agg #[.int .i64 0,.int .u64 0,.int .i64 0,.int .u64 0]).cells=#[Value.int .i64 0,.int .u64 0,.int .i64 0,.int .u64 0]:=rfl
  unfold madeCells
  rw [e0,Array.getElem?_toList,Array.getElem?_map,Array.getElem?_range]
  rw [if_pos (by omega)]
  have e1:(i*4+r) % 4=r:=by omega
  simp only [Option.map_some]
  match r,hr with
  | 0,_=>rw [show (#[Value.int .i64 0,.int .u64 0,.int .i64 0,.int .u64 0]:Array Value).size=4 from rfl,e1];rfl
  | 1,_=>rw [show (#[Value.int .i64 0,.int .u64 0,.int .i64 0,.int .u64 0]:Array Value).size=4 from rfl,e1];rfl
  | 2,_=>rw [show (#[Value.int .i64 0,.int .u64 0,.int .i64 0,.int .u64 0]:Array Value).size=4 from rfl,e1];rfl
  | 3,_=>rw [show (#[Value.int .i64 0,.int .u64 0,.int .i64 0,.int .u64 0]:Array Value).size=4 from rfl,e1];rfl
 have hc:∀ r u,r < 4→(#[Value.int .i64 0,.int .u64 0,.int .i64 0,.int .u64 0]:Array Value)[r]?=some u→W.cell? ⟨g,i*4+r,none⟩=some u:=by
  intro r u hr hu
  have:=World.ownsRow.cells h rfl (i*4+r) u (by rw [hz r hr];exact hu)
  rw [addr_plus,Nat.zero_add] at this
  exact this
 have c0:=hc 0 _ (by omega) rfl
 have c1:=hc 1 _ (by omega) rfl
 have c2:=hc 2 _ (by omega) rfl
 have c3:=hc 3 _ (by omega) rfl
 have hl:=wcell_lt c0
 exact ⟨0,0,by omega,by omega,by omega,by omega,by omega,⟨hl,c0,c1,hf _,hf _⟩,hl,c2,c3,hf _,hf _⟩
theorem LieA.stay {W W':World} {g b o:Nat} {x:Int} (h:LieA W b o x) (hs:Stay g W W') (hg:b≠g):LieA W' b o x:=
 ⟨Nat.lt_of_lt_of_le h.1 hs.size,hs.cell h.2.1 hg,hs.cell h.2.2.1 hg,by rw [hs.frozen h.1 hg];exact h.2.2.2.1,by rw [hs.frozen h.1 hg];exact h.2.2.2.2⟩
theorem SumAt.stay {W W':World} {g b o m:Nat} {T:Int} (h:SumAt W b o m T) (hs:Stay g W W') (hg:b≠g):SumAt W' b o m T:=by
 obtain ⟨A,B,e,h1,h2,h3,h4,h5,h6⟩:=h
 exact ⟨A,B,e,h1,h2,h3,h4,h5.stay hs hg,h6.stay hs hg⟩
/-- The tensor of the sums. -/
def gatE (d:List Int):Int:=if goodN (ntl d) then 0 else 2
def gatV (d:List Int) (F:Nat→Int):List Int:=if goodN (ntl d) then (List.range (prodN (ntl d))).map fun i=>rnd (F i) else []
theorem gathered_any (K:FuncId) (hEnt:∀ args W,(callFunc K args).run Tryz.prog W = .ok (.enter K args) W) (u0 u1 u2:Value) (p:Option Addr) (n c:Nat) (d:List Int) (hd:RI d) (F:Nat→Int) (M:Nat) (hM:M≤1073741824) (w:World) (hT:Hid (Tz w)) (h1:Nums .i64 w (.slice p n c) d)
  (hK:goodN (ntl d)→∀ W b,Below w.heap.size w W→w.heap.size≤b→b < W.heap.size→(∀ i,i < prodN (ntl d)→SumAt W b (i*4) 0 0)→Calls Tryz.prog K #[.slice (some ⟨b,0,none⟩) (prodN (ntl d)) (prodN (ntl d)),u0,u1,u2] W fun e w'=>e = .returned (.tuple #[])∧(∀ i,i < prodN (ntl d)→SumAt w' b (i*4) M (F i))∧Stay b W w'∧Below b W w'):
  Calls Tryz.prog 98 #[.slice p n c,.func (.func K) #[] #[u0,u1,u2]] w fun e w'=>∃ v',e = .returned (.tuple #[v',.int .i64 (gatE d)])∧TRes w' w.heap.size v' (newD d) (gatV d F)∧Below w.heap.size w w':=by
 have cN:=fun W (hW:Below w.heap.size w W)=>tnew_any _ d hd 0 W (h1.up hW)
 haveI:Nonempty World:=⟨w⟩
 by_cases hg:goodN (ntl d)
 ·have e1:newE d=0∧newD d=d∧newV d 0=List.replicate (prodN (ntl d)) 0∧gatE d=0∧gatV d F=(List.range (prodN (ntl d))).map fun i=>rnd (F i):=⟨if_pos hg,if_pos hg,if_pos hg,if_pos hg,if_pos hg⟩
  rw [e1.1,e1.2.1,e1.2.2.1] at cN
  rw [e1.2.1,e1.2.2.2.1,e1.2.2.2.2]
  have hK':=hK hg
  have hN:1≤prodN (ntl d)∧prodN (ntl d)≤4096:=⟨hg.pos,hg.2.2⟩
  obtain ⟨N,eN⟩:∃ N,prodN (ntl d)=N:=⟨_,rfl⟩
  rw [eN] at cN hK' hN ⊢
  have hN':1≤(N:Int)∧(N:Int)≤4096:=by omega
  obtain ⟨V,eV⟩:∃ V,(List.range N).map (fun i=>rnd (F i))=V:=⟨_,rfl⟩
  rw [eV]
  have HV:Hid (V.length=N∧∀ i,i < N→V.getD i 0=rnd (F i)):=⟨by rw [← eV];simp,fun i hi=>by rw [← eV];exact getD_map_range _ _ _ _ hi⟩
  have HK:Hid (∀ W b,Below w.heap.size w W→w.heap.size≤b→b < W.heap.size→(∀ i,i < N→SumAt W b (i*4) 0 0)→Calls Tryz.prog K #[.slice (some ⟨b,0,none⟩) N N,u0,u1,u2] W fun e w'=>e = .returned (.tuple #[])∧(∀ i,i < N→SumAt w' b (i*4) M (F i))∧Stay b W w'∧Below b W w'):=hK'
  have HMM:Hid (M≤1073741824):=hM
  clear e1 hK hK' eN eV hg hd h1 hM
  obtain ⟨i0,hi,hz0,hz1,hz2⟩:=infoS
  go_enter Tryz.func98,Tryz.ntmps98
  go_wp2_with fail
  generalize hW0:World.alloc _ _=W0
  have B0:Below w.heap.size w W0:=by rw [← hW0];exact up_alloc w _
  have XR:Hid (Cel W0 w.heap.size (.slice none 0 0) (.slice none 0 0)):=celW hW0 (by simp [go_sem])
  have HB0:Hid (Below w.heap.size w W0∧w.heap.size < W0.heap.size):=⟨B0,cell_lt XR.out.1⟩
  clear hW0 B0
  refine (cN W0 HB0.out.1).mono ?_
  rintro e w1 ⟨v1,rfl,⟨s1,t1,rfl,hs1,ht1⟩,hB1⟩
  obtain ⟨p1,n1,c1,rfl,_⟩:=hs1.nums.lst
  obtain ⟨gv,cv,rfl,hgv⟩:=ht1.at (by rw [List.length_replicate];omega)
  rw [List.length_replicate] at ht1 ⊢
  obtain ⟨cs,fz,hob⟩:=ht1.obj
  have hOff:Off gv (.slice p1 n1 c1):=hs1.off_type hob (by decide)
  go_wp2_with (at_make;generalize hW2:World.alloc _ _=W2;refine wpList_make_full W2 rfl (.tmp 20) (.tmp 20) 140 rfl W2.heap.size 143 i0 _ 4 Tryz.underlying140 hi hz0 hz1 .i64 .i64 N N N rfl rfl rfl rfl (by rw [hz2];omega) (by unfold maxLen;omega) (Nat.le_refl _) ?_;intro w3 hown hgrow;have B3:Below W2.heap.size W2 w3:=Below.grown (Below.refl _ _) hgrow (Nat.le_refl _) (fun j hj=>by cases hj);have H3:Hid (∀ i,i < N→SumAt w3 W2.heap.size (i*4) 0 0):=made_sums hown;clear hown hgrow)
  have B2:Below w1.heap.size w1 W2:=by rw [← hW2];exact up_alloc w1 _
  have XT:Hid (Cel W2 w1.heap.size (.slice p1 n1 c1) (.slice (some ⟨gv,0,none⟩) N cv)):=by show Cel _ _ _ _;unfold Cel;rw [← hW2];simp [go_sem]
  have HS2:Hid (OwnK .i64 3 W2 W0.heap.size (.slice p1 n1 c1) d∧OwnK .i64 22 W2 W0.heap.size (.slice (some ⟨gv,0,none⟩) N cv) (rowF V 0)∧Off gv (.slice p1 n1 c1)∧W0.heap.size≤gv):=⟨hs1.up B2,by rw [rowF_zero,HV.out.1];exact ht1.up B2,hOff,hgv⟩
  have HB2:Hid (Below w.heap.size w W2∧Below W0.heap.size W0 W2):=⟨bstep HB0.out.1 (bstep hB1 B2),bstep hB1 B2⟩
  have Hg:Hid (w1.heap.size < W2.heap.size∧W0.heap.size≤w1.heap.size∧gv < w1.heap.size∧w.heap.size < W0.heap.size):=⟨cell_lt XT.out.1,hB1.size,ht1.size,HB0.out.2⟩
  obtain ⟨g6,e6⟩:∃ g,w1.heap.size=g:=⟨_,rfl⟩
  rw [e6] at XT Hg ⊢
  clear hW2 B2 hs1 ht1 hB1 hOff hgv hob cN e6
  have hB3w:Below w.heap.size w w3:=bstep HB2.out.1 B3
  refine (HK.out w3 W2.heap.size hB3w HB2.out.1.size (H3.out 0 (by omega)).lt H3.out).mono ?_
  rintro e w4 ⟨rfl,hF4,hSt4,hBl4⟩
  have hgs:w.heap.size≤W2.heap.size:=HB2.out.1.size
  have HB4:Hid (Below w.heap.size w w4):=hB3w.trans (hBl4.mono hgs)
  have HS4:Hid (OwnK .i64 3 w4 W0.heap.size (.slice p1 n1 c1) d∧OwnK .i64 22 w4 W0.heap.size (.slice (some ⟨gv,0,none⟩) N cv) (rowF V 0)∧Off gv (.slice p1 n1 c1)∧W0.heap.size≤gv):=by
   have q:=HS2.out
   have g:=Hg.out
   have hb:Below W2.heap.size w3 w4:=hBl4
   have hb2:Below W2.heap.size W2 w4:=B3.trans hb
   exact ⟨q.1.up hb2,q.2.1.up hb2,q.2.2⟩
  have XT4:Hid (Cel w4 g6 (.slice p1 n1 c1) (.slice (some ⟨gv,0,none⟩) N cv)):=XT.out.up (B3.trans hBl4)
  have XR4:Hid (Cel w4 w.heap.size (.slice none 0 0) (.slice none 0 0)):=(XR.out.up HB2.out.2).up (B3.trans hBl4)
  have HF4:Hid (∀ i,i < N→SumAt w4 W2.heap.size (i*4) M (F i)):=hF4
  have Hgs:Hid (gv < W2.heap.size∧g6 < W2.heap.size):=⟨by have:=Hg.out;omega,Hg.out.1⟩
  obtain ⟨gs,egs⟩:∃ g,W2.heap.size=g:=⟨_,rfl⟩
  rw [egs] at HF4 Hgs ⊢
  clear hF4 hSt4 hBl4 hB3w hgs H3 B3 XT XR HS2 egs hi hz0 hz1 hz2 i0
  go_wp2_with fail
  go_loopg [27] N (fun gg i wr=>∃ (k:Nat),k≤N∧gg=N - k∧i = .int .i64 (k:Int)∧Hid (OwnK .i64 22 wr W0.heap.size (.slice (some ⟨gv,0,none⟩) N cv) (rowF V k))∧Hid (Below w.heap.size w wr∧Stay gv w4 wr))
  case atStart=>exact ⟨0,by omega,by omega,by first|rfl|simp,HS4.out.2.1,HB4.out,Stay.refl _ _⟩
  case round=>
   obtain ⟨k,hk,hgk,rfl,HO,HBk⟩:=hrel
   obtain ⟨R1,hR1⟩:∃ R1:World,R1=wr:=⟨_,rfl⟩
   subst hR1
   by_cases hkn:k < N
   ·have hk':(k:Int) < (N:Int):=by omega
    have hsum:Hid (SumAt R1 gs (k*4) M (F k)):=(HF4.out k hkn).stay HBk.out.2 (by have:=Hgs.out;omega)
    obtain ⟨Z,eZ⟩:∃ Z,V.getD k 0=Z:=⟨_,rfl⟩
    have HZ:Hid (V.getD k 0=Z):=eZ
    have cz:∀ W,Below R1.heap.size R1 W→Calls Tryz.prog 128 #[.pointer (some ⟨gs,k*4,none⟩)] W fun e w'=>e = .returned (.int .i64 Z)∧Below W.heap.size W w':=fun W hW=>by
     rw [← eZ,HV.out.2 k hkn]
     exact sfix_any gs (k*4) M (F k) HMM.out W (Hid.up_tz hT (bstep HBk.out.1 hW)) (hsum.out.up hW)
    obtain ⟨t0,t1,_,_⟩:=XT4.out.stay HBk.out.2 (by have:=Hg.out;omega)
    have t9:=cell_lt t0
    have s9:=hsum.out.lt
    clear eZ
    go_wp2_with fail
    refine flow 8 40 (by kernel_rfl) rfl rfl (by kernel_rfl) ?_
    apply Exists.intro
    refine ⟨?_,?_⟩
    ·intro F hF
     have hFc:=hF.cell
     have hFf:=hF.frozen
     simp only [List.take_succ_cons,List.take_zero,List.eraseIdx_cons_succ,List.eraseIdx_cons_zero]
     repeat (go_big_quiet_step (first|(go_at_call 128;with_reducible exact hF.call (cz _ (hF.below _)))))
     refine wpQuiet_nil ?_
     exact rfl
    ·intro W5 hW5
     simp only [List.drop_succ_cons,List.drop_zero]
     have HR2:=HO.out.up hW5
     obtain ⟨hown,hfz⟩:=HR2.cell (by rw [rowF_len];exact HV.out.1) k hkn
     have lt2:=cell_lt hown
     have H5:Hid (OwnK .i64 22 (W5.setCell ⟨gv,k,none⟩ (.int .i64 Z)) W0.heap.size (.slice (some ⟨gv,0,none⟩) N cv) (rowF V (k+1))):=by
      have:=HR2.store (by rw [rowF_len];exact HV.out.1) k Z
      rw [← HZ.out,rowF_set V k (by rw [HV.out.1];exact hkn)] at this
      rw [← HZ.out]
      exact this
     have hgw:w.heap.size≤gv:=by have:=Hg.out;have:=HS4.out.2.2.2;omega
     have H6:Hid (Below w.heap.size w (W5.setCell ⟨gv,k,none⟩ (.int .i64 Z))∧Stay gv w4 (W5.setCell ⟨gv,k,none⟩ (.int .i64 Z))):=⟨(bstep HBk.out.1 hW5).setCell (p:=⟨gv,k,none⟩) hgw _,(HBk.out.2.up hW5).set _ _⟩
     clear hW5 HR2 cz t0 t1 t9 s9 hsum HO HBk hgw
     go_wp2
     go_roundg (N - (k+1))
     case measure=>omega
     case rel=>exact ⟨k+1,by omega,rfl,by first|rfl|simp,H5,H6⟩
   ·obtain rfl:k=N:=by omega
    have hfin:=HO.out
    rw [← HV.out.1,rowF_full,HV.out.1] at hfin
    have xR:=XR4.out.stay HBk.out.2 (by have:=Hg.out;have:=HS4.out.2.2.2;omega)
    have xT:=XT4.out.stay HBk.out.2 (by have:=Hg.out;omega)
    have o1:=HS4.out.1.stay HBk.out.2 HS4.out.2.2.1
    have HF:Hid (TRes (set2 R1 w.heap.size (.slice p1 n1 c1) (.slice (some ⟨gv,0,none⟩) k cv)) w.heap.size (.agg #[.slice p1 n1 c1,.slice (some ⟨gv,0,none⟩) k cv]) d V∧Below w.heap.size w (set2 R1 w.heap.size (.slice p1 n1 c1) (.slice (some ⟨gv,0,none⟩) k cv))):=
     ⟨(TRes.set o1 hfin (by have:=Hg.out;omega)).low (by have:=Hg.out;omega),below_cell HBk.out.1 _ (Nat.le_refl _) _ _⟩
    have cf:=xR.set (.slice p1 n1 c1) (.slice (some ⟨gv,0,none⟩) k cv)
    obtain ⟨t0,t1,_,_⟩:=xT
    obtain ⟨r0,r1,r2,r3⟩:=xR
    obtain ⟨y0,y1,_,_⟩:=cf
    have t9:=cell_lt t0
    have r9:=cell_lt r0
    go_wp2
    exact bodyPost_ret (v:=.tuple #[.agg #[.slice p1 n1 c1,.slice (some ⟨gv,0,none⟩) k cv],.int .i64 0]) (by simp [results,Tryz.results98,go_sem,y0,y1]) rfl ⟨_,rfl,HF.out⟩
 ·have e1:newE d=1∧newD d = []∧newV d 0 = []∧gatE d=2∧gatV d F = []:=⟨if_neg hg,if_neg hg,if_neg hg,if_neg hg,if_neg hg⟩
  rw [e1.1,e1.2.1,e1.2.2.1] at cN
  rw [e1.2.1,e1.2.2.2.1,e1.2.2.2.2]
  clear e1 hK hg hd h1 hM
  go_enter Tryz.func98,Tryz.ntmps98
  go_wp2_with fail
  generalize hW0:World.alloc _ _=W0
  have B0:Below w.heap.size w W0:=by rw [← hW0];exact up_alloc w _
  have XR:Hid (Cel W0 w.heap.size (.slice none 0 0) (.slice none 0 0)):=celW hW0 (by simp [go_sem])
  have HB0:Hid (Below w.heap.size w W0):=B0
  clear hW0 B0
  refine (cN W0 HB0.out).mono ?_
  rintro e w1 ⟨v1,rfl,⟨s1,t1,rfl,hs1,ht1⟩,hB1⟩
  obtain ⟨p1,n1,c1,rfl,_⟩:=hs1.nums.lst
  obtain ⟨p2,n2,c2,rfl,_⟩:=ht1.nums.lst
  have xr:Cel (w1.alloc (.cells #[.slice p1 n1 c1,.slice p2 n2 c2] 32)) w.heap.size (.slice none 0 0) (.slice none 0 0):=(XR.out.up hB1).up (up_alloc w1 _)
  have BF:=below_cell (bstep (bstep HB0.out hB1) (up_alloc w1 (.cells #[.slice p1 n1 c1,.slice p2 n2 c2] 32))) w.heap.size (Nat.le_refl _) (.slice none 0 0) (.slice none 0 0)
  have cf:=xr.set (.slice none 0 0) (.slice none 0 0)
  obtain ⟨r0,r1,r2,r3⟩:=xr
  obtain ⟨y0,y1,_,_⟩:=cf
  go_wp2
  exact bodyPost_ret (v:=.tuple #[.agg #[.slice none 0 0,.slice none 0 0],.int .i64 2]) (by simp [results,Tryz.results98,go_sem,y0,y1]) rfl ⟨_,rfl,TRes.none _ _,BF⟩
/-- What such a function value reads: the sums' slice in gb, two tensors' numbers by way of ga and gk; the sums lie in b. -/
def Mt (W:World) (b gb ga gk N:Nat) (pa:Option Addr) (na ca:Nat) (pk:Option Addr) (nk ck:Nat) (x y:List Int):Prop:=
 W.cell? ⟨gb,0,none⟩=some (.slice (some ⟨b,0,none⟩) N N)∧W.cell? ⟨ga,1,none⟩=some (.slice pa na ca)∧W.cell? ⟨gk,1,none⟩=some (.slice pk nk ck)∧Nums .i64 W (.slice pa na ca) x∧Nums .i64 W (.slice pk nk ck) y∧(gb≠b∧ga≠b∧gk≠b)∧Off b (.slice pa na ca)∧Off b (.slice pk nk ck)
theorem Mt.up {W W':World} {b gb ga gk N:Nat} {pa:Option Addr} {na ca:Nat} {pk:Option Addr} {nk ck:Nat} {x y:List Int} (h:Mt W b gb ga gk N pa na ca pk nk ck x y) (hB:Below W.heap.size W W'):Mt W' b gb ga gk N pa na ca pk nk ck x y:=
 ⟨cell_low h.1 hB,cell_low h.2.1 hB,cell_low h.2.2.1 hB,h.2.2.2.1.up hB,h.2.2.2.2.1.up hB,h.2.2.2.2.2⟩
theorem Mt.stay {W W':World} {b gb ga gk N:Nat} {pa:Option Addr} {na ca:Nat} {pk:Option Addr} {nk ck:Nat} {x y:List Int} (h:Mt W b gb ga gk N pa na ca pk nk ck x y) (hS:Stay b W W'):Mt W' b gb ga gk N pa na ca pk nk ck x y:=
 ⟨hS.cell h.1 h.2.2.2.2.2.1.1,hS.cell h.2.1 h.2.2.2.2.2.1.2.1,hS.cell h.2.2.1 h.2.2.2.2.2.1.2.2,h.2.2.2.1.stay hS h.2.2.2.2.2.2.1,h.2.2.2.2.1.stay hS h.2.2.2.2.2.2.2,h.2.2.2.2.2⟩
/-- Sums that have met q. -/
def Sms (W:World) (b N q:Nat) (f:Nat→Int):Prop:=∀ i,i < N→SumAt W b (i*4) q (f i)
theorem Sms.up {W W':World} {b N q:Nat} {f:Nat→Int} (h:Sms W b N q f) (hB:Below W.heap.size W W'):Sms W' b N q f:=fun i hi=>(h i hi).up hB
theorem Sms.add {W W':World} {b N q j:Nat} {f f':Nat→Int} {Z:Int} (h:Sms W b N q f) (hn:Near b (j*4) W W') (hs:SumAt W' b (j*4) (q+1) (f j+Z)) (hf:∀ i,i < N→f' i=if j=i then f i+Z else f i):Sms W' b N (q+1) f':=fun i hi=>by
 rw [hf i hi]
 by_cases e:j=i
 ·subst e
  rw [if_pos rfl]
  exact hs
 ·rw [if_neg e]
  exact ((h i hi).near hn (by omega)).more (by omega)
theorem rmeet_any (b gb ga gk N m P0 P1 P2:Nat) (T:Int) (pa:Option Addr) (na ca:Nat) (pk:Option Addr) (nk ck:Nat) (x y:List Int) (hx:RI x) (hy:RI y) (hm:m≤1073741824) (hN:N≤4096) (hs:P2 < N) (ha:P0 < x.length) (hk:P1 < y.length) (hxl:x.length≤4096) (hyl:y.length≤4096) (w:World) (hM:Mt w b gb ga gk N pa na ca pk nk ck x y) (hS:Hid (SumAt w b (P2*4) m T)):
  Calls Tryz.prog 102 #[.int .i64 (P0:Int),.int .i64 (P1:Int),.int .i64 (P2:Int),.pointer (some ⟨gb,0,none⟩),.pointer (some ⟨ga,0,none⟩),.pointer (some ⟨gk,0,none⟩)] w fun e w'=>e = .returned (.tuple #[])∧SumAt w' b (P2*4) (m+1) (T+x.getD P0 0*y.getD P1 0)∧Near b (P2*4) w w':=by
 obtain ⟨c0,c1,c2,hnx,hny,_,_,_⟩:=hM
 obtain ⟨_,_,_,e4,HX⟩:=hnx.lst
 cases e4
 obtain ⟨_,_,_,e4,HY⟩:=hny.lst
 cases e4
 have lx:=HX.out.1
 have ly:=HY.out.1
 obtain ⟨q1,o1,rfl,d1⟩:=HX.out.2 P0 (by omega)
 obtain ⟨q2,o2,rfl,d2⟩:=HY.out.2 P1 (by omega)
 have rX:=getD_inR hx P0
 have rY:=getD_inR hy P1
 obtain ⟨X,eX⟩:∃ X,x.getD P0 0=X:=⟨_,rfl⟩
 obtain ⟨Y,eY⟩:∃ Y,y.getD P1 0=Y:=⟨_,rfl⟩
 rw [eX] at rX d1 ⊢
 rw [eY] at rY d2 ⊢
 have cA:Hid (∀ W,Below w.heap.size w W→Calls Tryz.prog 103 #[.pointer (some ⟨b,P2*4,none⟩),.int .i64 X,.int .i64 Y] W fun e w'=>e = .returned (.tuple #[])∧SumAt w' b (P2*4) (m+1) (T+X*Y)∧Near b (P2*4) W w'):=fun W hW=>sadd_any b (P2*4) m T X Y hm rX rY W (hS.out.up hW)
 have hs':(P2:Int) < (N:Int)∧(N:Int)≤4096:=by omega
 have ha':(P0:Int) < (na:Int)∧(na:Int)≤4096:=by omega
 have hk':(P1:Int) < (nk:Int)∧(nk:Int)≤4096:=by omega
 have l0:=cell_lt c0
 have l1:=cell_lt c1
 have l2:=cell_lt c2
 have l3:=cell_lt d1
 have l4:=cell_lt d2
 have l5:Hid (b < w.heap.size):=hS.out.lt
 clear hnx hny HX HY lx ly rX rY eX eY hx hy hs ha hk hxl hyl hm hN hS
 haveI:Nonempty World:=⟨w⟩
 go_enter Tryz.func102,Tryz.ntmps102
 go_wp2_with fail
 refine flow 13 23 (by kernel_rfl) rfl rfl (by kernel_rfl) ?_
 apply Exists.intro
 refine ⟨?_,?_⟩
 ·intro F hF
  have hFc:=hF.cell
  have hFf:=hF.frozen
  simp only [List.take_succ_cons,List.take_zero,List.eraseIdx_cons_succ,List.eraseIdx_cons_zero]
  repeat (go_big_quiet_step (fail))
  refine wpQuiet_nil ?_
  exact rfl
 ·intro W1 hW1
  simp only [List.drop_succ_cons,List.drop_zero]
  clear c0 c1 c2 d1 d2 l0 l1 l2 l3 l4
  go_wp2_with fail
  refine (cA.out W1 hW1).mono ?_
  rintro e w2 ⟨rfl,hS2,hN2⟩
  have HE:Hid (SumAt w2 b (P2*4) (m+1) (T+X*Y)∧Near b (P2*4) w w2):=⟨hS2,(Near.of hW1 l5.out).trans hN2⟩
  clear hS2 hN2 hW1 cA
  go_wp2
  go_end0
  exact ⟨rfl,HE.out⟩
theorem imeet_any (b gb ga gk N m P0 P1 P2:Nat) (T:Int) (pa:Option Addr) (na ca:Nat) (pk:Option Addr) (nk ck:Nat) (x y:List Int) (hx:RI x) (hy:RI y) (hm:m≤1073741824) (hN:N≤4096) (hs:P0 < N) (ha:P2 < x.length) (hk:P1 < y.length) (hxl:x.length≤4096) (hyl:y.length≤4096) (w:World) (hM:Mt w b gb ga gk N pa na ca pk nk ck x y) (hS:Hid (SumAt w b (P0*4) m T)):
  Calls Tryz.prog 183 #[.int .i64 (P0:Int),.int .i64 (P1:Int),.int .i64 (P2:Int),.pointer (some ⟨gb,0,none⟩),.pointer (some ⟨ga,0,none⟩),.pointer (some ⟨gk,0,none⟩)] w fun e w'=>e = .returned (.tuple #[])∧SumAt w' b (P0*4) (m+1) (T+x.getD P2 0*y.getD P1 0)∧Near b (P0*4) w w':=by
 obtain ⟨c0,c1,c2,hnx,hny,_,_,_⟩:=hM
 obtain ⟨_,_,_,e4,HX⟩:=hnx.lst
 cases e4
 obtain ⟨_,_,_,e4,HY⟩:=hny.lst
 cases e4
 have lx:=HX.out.1
 have ly:=HY.out.1
 obtain ⟨q1,o1,rfl,d1⟩:=HX.out.2 P2 (by omega)
 obtain ⟨q2,o2,rfl,d2⟩:=HY.out.2 P1 (by omega)
 have rX:=getD_inR hx P2
 have rY:=getD_inR hy P1
 obtain ⟨X,eX⟩:∃ X,x.getD P2 0=X:=⟨_,rfl⟩
 obtain ⟨Y,eY⟩:∃ Y,y.getD P1 0=Y:=⟨_,rfl⟩
 rw [eX] at rX d1 ⊢
 rw [eY] at rY d2 ⊢
 have cA:Hid (∀ W,Below w.heap.size w W→Calls Tryz.prog 103 #[.pointer (some ⟨b,P0*4,none⟩),.int .i64 X,.int .i64 Y] W fun e w'=>e = .returned (.tuple #[])∧SumAt w' b (P0*4) (m+1) (T+X*Y)∧Near b (P0*4) W w'):=fun W hW=>sadd_any b (P0*4) m T X Y hm rX rY W (hS.out.up hW)
 have hs':(P0:Int) < (N:Int)∧(N:Int)≤4096:=by omega
 have ha':(P2:Int) < (na:Int)∧(na:Int)≤4096:=by omega
 have hk':(P1:Int) < (nk:Int)∧(nk:Int)≤4096:=by omega
 have l0:=cell_lt c0
 have l1:=cell_lt c1
 have l2:=cell_lt c2
 have l3:=cell_lt d1
 have l4:=cell_lt d2
 have l5:Hid (b < w.heap.size):=hS.out.lt
 clear hnx hny HX HY lx ly rX rY eX eY hx hy hs ha hk hxl hyl hm hN hS
 haveI:Nonempty World:=⟨w⟩
 go_enter Tryz.func183,Tryz.ntmps183
 go_wp2_with fail
 refine flow 13 23 (by kernel_rfl) rfl rfl (by kernel_rfl) ?_
 apply Exists.intro
 refine ⟨?_,?_⟩
 ·intro F hF
  have hFc:=hF.cell
  have hFf:=hF.frozen
  simp only [List.take_succ_cons,List.take_zero,List.eraseIdx_cons_succ,List.eraseIdx_cons_zero]
  repeat (go_big_quiet_step (fail))
  refine wpQuiet_nil ?_
  exact rfl
 ·intro W1 hW1
  simp only [List.drop_succ_cons,List.drop_zero]
  clear c0 c1 c2 d1 d2 l0 l1 l2 l3 l4
  go_wp2_with fail
  refine (cA.out W1 hW1).mono ?_
  rintro e w2 ⟨rfl,hS2,hN2⟩
  have HE:Hid (SumAt w2 b (P0*4) (m+1) (T+X*Y)∧Near b (P0*4) w w2):=⟨hS2,(Near.of hW1 l5.out).trans hN2⟩
  clear hS2 hN2 hW1 cA
  go_wp2
  go_end0
  exact ⟨rfl,HE.out⟩
theorem kmeet_any (b gb ga gk N m P0 P1 P2:Nat) (T:Int) (pa:Option Addr) (na ca:Nat) (pk:Option Addr) (nk ck:Nat) (x y:List Int) (hx:RI x) (hy:RI y) (hm:m≤1073741824) (hN:N≤4096) (hs:P1 < N) (ha:P2 < x.length) (hk:P0 < y.length) (hxl:x.length≤4096) (hyl:y.length≤4096) (w:World) (hM:Mt w b gb ga gk N pa na ca pk nk ck x y) (hS:Hid (SumAt w b (P1*4) m T)):
  Calls Tryz.prog 185 #[.int .i64 (P0:Int),.int .i64 (P1:Int),.int .i64 (P2:Int),.pointer (some ⟨gb,0,none⟩),.pointer (some ⟨ga,0,none⟩),.pointer (some ⟨gk,0,none⟩)] w fun e w'=>e = .returned (.tuple #[])∧SumAt w' b (P1*4) (m+1) (T+x.getD P2 0*y.getD P0 0)∧Near b (P1*4) w w':=by
 obtain ⟨c0,c1,c2,hnx,hny,_,_,_⟩:=hM
 obtain ⟨_,_,_,e4,HX⟩:=hnx.lst
 cases e4
 obtain ⟨_,_,_,e4,HY⟩:=hny.lst
 cases e4
 have lx:=HX.out.1
 have ly:=HY.out.1
 obtain ⟨q1,o1,rfl,d1⟩:=HX.out.2 P2 (by omega)
 obtain ⟨q2,o2,rfl,d2⟩:=HY.out.2 P0 (by omega)
 have rX:=getD_inR hx P2
 have rY:=getD_inR hy P0
 obtain ⟨X,eX⟩:∃ X,x.getD P2 0=X:=⟨_,rfl⟩
 obtain ⟨Y,eY⟩:∃ Y,y.getD P0 0=Y:=⟨_,rfl⟩
 rw [eX] at rX d1 ⊢
 rw [eY] at rY d2 ⊢
 have cA:Hid (∀ W,Below w.heap.size w W→Calls Tryz.prog 103 #[.pointer (some ⟨b,P1*4,none⟩),.int .i64 X,.int .i64 Y] W fun e w'=>e = .returned (.tuple #[])∧SumAt w' b (P1*4) (m+1) (T+X*Y)∧Near b (P1*4) W w'):=fun W hW=>sadd_any b (P1*4) m T X Y hm rX rY W (hS.out.up hW)
 have hs':(P1:Int) < (N:Int)∧(N:Int)≤4096:=by omega
 have ha':(P2:Int) < (na:Int)∧(na:Int)≤4096:=by omega
 have hk':(P0:Int) < (nk:Int)∧(nk:Int)≤4096:=by omega
 have l0:=cell_lt c0
 have l1:=cell_lt c1
 have l2:=cell_lt c2
 have l3:=cell_lt d1
 have l4:=cell_lt d2
 have l5:Hid (b < w.heap.size):=hS.out.lt
 clear hnx hny HX HY lx ly rX rY eX eY hx hy hs ha hk hxl hyl hm hN hS
 haveI:Nonempty World:=⟨w⟩
 go_enter Tryz.func185,Tryz.ntmps185
 go_wp2_with fail
 refine flow 13 23 (by kernel_rfl) rfl rfl (by kernel_rfl) ?_
 apply Exists.intro
 refine ⟨?_,?_⟩
 ·intro F hF
  have hFc:=hF.cell
  have hFf:=hF.frozen
  simp only [List.take_succ_cons,List.take_zero,List.eraseIdx_cons_succ,List.eraseIdx_cons_zero]
  repeat (go_big_quiet_step (fail))
  refine wpQuiet_nil ?_
  exact rfl
 ·intro W1 hW1
  simp only [List.drop_succ_cons,List.drop_zero]
  clear c0 c1 c2 d1 d2 l0 l1 l2 l3 l4
  go_wp2_with fail
  refine (cA.out W1 hW1).mono ?_
  rintro e w2 ⟨rfl,hS2,hN2⟩
  have HE:Hid (SumAt w2 b (P1*4) (m+1) (T+X*Y)∧Near b (P1*4) w w2):=⟨hS2,(Near.of hW1 l5.out).trans hN2⟩
  clear hS2 hN2 hW1 cA
  go_wp2
  go_end0
  exact ⟨rfl,HE.out⟩
theorem rgather_any (R L O wd st S:Nat) (hS:stopsN L wd st=S) (h1:wd≤L) (h2:L≤4096) (h3:1≤st) (h4:st≤64) (h5:O*R*wd≤4096) (h6:O*S≤4096) (h7:R*L≤4096) (h8:O≤4096) (h9:R≤4096) (b gs ga gk:Nat) (pa:Option Addr) (na ca:Nat) (pk:Option Addr) (nk ck:Nat) (x y:List Int) (hx:RI x) (hy:RI y) (hxl:x.length=R*L) (hyl:y.length=O*R*wd) (w:World)
  (hs:SlC w gs R L O wd st) (ca1:w.cell? ⟨ga,1,none⟩=some (.slice pa na ca)) (ck1:w.cell? ⟨gk,1,none⟩=some (.slice pk nk ck)) (nx:Nums .i64 w (.slice pa na ca) x) (ny:Nums .i64 w (.slice pk nk ck) y) (hne:ga≠b∧gk≠b) (fx:Off b (.slice pa na ca)) (fy:Off b (.slice pk nk ck)) (hb:b < w.heap.size) (h0:Sms w b (O*S) 0 (fun _=>0)):
  Calls Tryz.prog 100 #[.slice (some ⟨b,0,none⟩) (O*S) (O*S),.pointer (some ⟨gs,0,none⟩),.pointer (some ⟨ga,0,none⟩),.pointer (some ⟨gk,0,none⟩)] w fun e w'=>e = .returned (.tuple #[])∧Sms w' b (O*S) (O*R*S*wd) (fun i=>flat4 (rowT L R S wd st x y i) R S wd (O*R*S*wd))∧Stay b w w'∧Below b w w':=by
 have hbnd:O*R*S*wd≤1073741824:=by
  have q1:S≤4097:=by rw [← hS];unfold stopsN;have:=Nat.div_le_self (L - wd) st;omega
  have q2:O*R*S*wd=O*R*wd*S:=by rw [Nat.mul_assoc,Nat.mul_comm S wd,← Nat.mul_assoc]
  rw [q2]
  exact Nat.le_trans (Nat.mul_le_mul h5 q1) (by decide)
 have hst:∀ n,n < S→n*st+wd≤L:=fun n hn=>by
  unfold stopsN at hS
  have:n≤(L - wd) / st:=by omega
  have:=(Nat.le_div_iff_mul_le (by omega)).1 this
  omega
 have hmf:∀ (fn:Fn) (first cap:Array Value) (w:World),(Instr.makeFunc fn first cap).run Tryz.prog w = .ok (.func fn first cap) w:=fun _ _ _ _=>rfl
 obtain ⟨z0,z1,z2,z3,z4⟩:=hs
 have zl:=cell_lt z0
 have HE:Hid (∀ gb W0,W0=w.alloc (.cells #[.slice (some ⟨b,0,none⟩) (O*S) (O*S)] 140)→gb=w.heap.size→Calls Tryz.prog 101 #[.agg #[.int .i64 (R:Int),.int .i64 (L:Int),.int .i64 (O:Int),.int .i64 (wd:Int),.int .i64 (st:Int)],.func (.func 102) #[] #[.pointer (some ⟨gb,0,none⟩),.pointer (some ⟨ga,0,none⟩),.pointer (some ⟨gk,0,none⟩)]] W0 fun e w'=>e = .returned (.tuple #[])∧(Sms w' b (O*S) (O*R*S*wd) (fun i=>flat4 (rowT L R S wd st x y i) R S wd (O*R*S*wd))∧Mt w' b gb ga gk (O*S) pa na ca pk nk ck x y)∧Stay b W0 w'∧Below b W0 w'):=fun gb W0 eW egb=>by
  have hB:Below w.heap.size w W0:=by rw [eW];exact up_alloc w _
  have cgb:W0.cell? ⟨gb,0,none⟩=some (.slice (some ⟨b,0,none⟩) (O*S) (O*S)):=by rw [eW,egb];simp [go_sem]
  refine ceach_any _ (fun args W=>by simp [go_sem]) _ _ _ b R L O wd st S hS h1 h2 h3 h4 h5 h6 h7 h8 h9 (fun q W=>Sms W b (O*S) q (fun i=>flat4 (rowT L R S wd st x y i) R S wd q)∧Mt W b gb ga gk (O*S) pa na ca pk nk ck x y) (fun q W W' h hB=>⟨h.1.up hB,h.2.up hB⟩) ?_ W0 (Nat.lt_of_lt_of_le hb hB.size) ⟨h0.up hB,cgb,cell_low ca1 hB,cell_low ck1 hB,nx.up hB,ny.up hB,⟨by omega,hne⟩,fx,fy⟩
  intro o c n y' ho hc hn hy' W hI
  have hb0:c*L+n*st+y' < R*L:=by
   have q1:=hst n hn
   have q2:(c+1)*L≤R*L:=Nat.mul_le_mul_right L hc
   rw [Nat.add_mul,Nat.one_mul] at q2
   omega
  have hb1:(o*R+c)*wd+y' < O*R*wd:=pair_lt (pair_lt ho hc) hy'
  have hb2:o*S+n < O*S:=pair_lt ho hn
  have hq:((o*R+c)*S+n)*wd+y'≤1073741824:=by
   have:=pair_lt (pair_lt (pair_lt ho hc) hn) hy'
   omega
  refine (rmeet_any b gb ga gk (O*S) (((o*R+c)*S+n)*wd+y') _ _ _ _ pa na ca pk nk ck x y hx hy hq (by omega) hb2 (by rw [hxl];exact hb0) (by rw [hyl];exact hb1) (by omega) (by omega) W hI.2 (hI.1 _ hb2)).mono ?_
  rintro e w' ⟨e1,hs',hn'⟩
  refine ⟨e1,⟨hI.1.add hn' hs' ?_,hI.2.stay hn'.stay⟩,hn'.stay,hn'.below⟩
  intro i hi
  show flat4 _ R S wd _=_
  rw [flat4_step _ hc hn hy']
  unfold rowT
  by_cases e:o*S+n=i
  ·rw [if_pos e,if_pos e]
  ·rw [if_neg e,if_neg e,Int.add_zero]
 have hb':Hid (b < w.heap.size):=hb
 clear h0 ca1 ck1 nx ny fx fy hx hy hxl hyl hbnd hst hS h5 h6 h7 hb hne
 haveI:Nonempty World:=⟨w⟩
 obtain ⟨NN,eNN⟩:∃ n,O*S=n:=⟨_,rfl⟩
 rw [eNN] at HE ⊢
 go_enter Tryz.func100,Tryz.ntmps100
 go_wp2_with fail
 refine (HE.out _ _ rfl rfl).mono ?_
 rintro e w1 ⟨rfl,⟨hS1,_⟩,hT1,hB1⟩
 have hU:=up_alloc w (.cells #[.slice (some ⟨b,0,none⟩) NN NN] 140)
 have HF:Hid (Sms w1 b NN (O*R*S*wd) (fun i=>flat4 (rowT L R S wd st x y i) R S wd (O*R*S*wd))∧Stay b w w1∧Below b w w1):=⟨hS1,(Stay.of hU).trans hT1,(hU.mono (Nat.le_of_lt hb'.out)).trans hB1⟩
 clear hS1 hT1 hB1 hU
 go_wp2
 go_end0
 exact ⟨rfl,HF.out⟩
theorem igather_any (R L O wd st S:Nat) (hS:stopsN L wd st=S) (h1:wd≤L) (h2:L≤4096) (h3:1≤st) (h4:st≤64) (h5:O*R*wd≤4096) (h6:O*S≤4096) (h7:R*L≤4096) (h8:O≤4096) (h9:R≤4096) (b gs ga gk:Nat) (pa:Option Addr) (na ca:Nat) (pk:Option Addr) (nk ck:Nat) (x y:List Int) (hx:RI x) (hy:RI y) (hxl:x.length=O*S) (hyl:y.length=O*R*wd) (w:World)
  (hs:SlC w gs R L O wd st) (ca1:w.cell? ⟨ga,1,none⟩=some (.slice pa na ca)) (ck1:w.cell? ⟨gk,1,none⟩=some (.slice pk nk ck)) (nx:Nums .i64 w (.slice pa na ca) x) (ny:Nums .i64 w (.slice pk nk ck) y) (hne:ga≠b∧gk≠b) (fx:Off b (.slice pa na ca)) (fy:Off b (.slice pk nk ck)) (hb:b < w.heap.size) (h0:Sms w b (R*L) 0 (fun _=>0)):
  Calls Tryz.prog 182 #[.slice (some ⟨b,0,none⟩) (R*L) (R*L),.pointer (some ⟨gs,0,none⟩),.pointer (some ⟨ga,0,none⟩),.pointer (some ⟨gk,0,none⟩)] w fun e w'=>e = .returned (.tuple #[])∧Sms w' b (R*L) (O*R*S*wd) (fun i=>flat4 (inT L R S wd st x y i) R S wd (O*R*S*wd))∧Stay b w w'∧Below b w w':=by
 have hbnd:O*R*S*wd≤1073741824:=by
  have q1:S≤4097:=by rw [← hS];unfold stopsN;have:=Nat.div_le_self (L - wd) st;omega
  have q2:O*R*S*wd=O*R*wd*S:=by rw [Nat.mul_assoc,Nat.mul_comm S wd,← Nat.mul_assoc]
  rw [q2]
  exact Nat.le_trans (Nat.mul_le_mul h5 q1) (by decide)
 have hst:∀ n,n < S→n*st+wd≤L:=fun n hn=>by
  unfold stopsN at hS
  have:n≤(L - wd) / st:=by omega
  have:=(Nat.le_div_iff_mul_le (by omega)).1 this
  omega
 have hmf:∀ (fn:Fn) (first cap:Array Value) (w:World),(Instr.makeFunc fn first cap).run Tryz.prog w = .ok (.func fn first cap) w:=fun _ _ _ _=>rfl
 obtain ⟨z0,z1,z2,z3,z4⟩:=hs
 have zl:=cell_lt z0
 have HE:Hid (∀ gb W0,W0=w.alloc (.cells #[.slice (some ⟨b,0,none⟩) (R*L) (R*L)] 140)→gb=w.heap.size→Calls Tryz.prog 101 #[.agg #[.int .i64 (R:Int),.int .i64 (L:Int),.int .i64 (O:Int),.int .i64 (wd:Int),.int .i64 (st:Int)],.func (.func 183) #[] #[.pointer (some ⟨gb,0,none⟩),.pointer (some ⟨ga,0,none⟩),.pointer (some ⟨gk,0,none⟩)]] W0 fun e w'=>e = .returned (.tuple #[])∧(Sms w' b (R*L) (O*R*S*wd) (fun i=>flat4 (inT L R S wd st x y i) R S wd (O*R*S*wd))∧Mt w' b gb ga gk (R*L) pa na ca pk nk ck x y)∧Stay b W0 w'∧Below b W0 w'):=fun gb W0 eW egb=>by
  have hB:Below w.heap.size w W0:=by rw [eW];exact up_alloc w _
  have cgb:W0.cell? ⟨gb,0,none⟩=some (.slice (some ⟨b,0,none⟩) (R*L) (R*L)):=by rw [eW,egb];simp [go_sem]
  refine ceach_any _ (fun args W=>by simp [go_sem]) _ _ _ b R L O wd st S hS h1 h2 h3 h4 h5 h6 h7 h8 h9 (fun q W=>Sms W b (R*L) q (fun i=>flat4 (inT L R S wd st x y i) R S wd q)∧Mt W b gb ga gk (R*L) pa na ca pk nk ck x y) (fun q W W' h hB=>⟨h.1.up hB,h.2.up hB⟩) ?_ W0 (Nat.lt_of_lt_of_le hb hB.size) ⟨h0.up hB,cgb,cell_low ca1 hB,cell_low ck1 hB,nx.up hB,ny.up hB,⟨by omega,hne⟩,fx,fy⟩
  intro o c n y' ho hc hn hy' W hI
  have hb0:c*L+n*st+y' < R*L:=by
   have q1:=hst n hn
   have q2:(c+1)*L≤R*L:=Nat.mul_le_mul_right L hc
   rw [Nat.add_mul,Nat.one_mul] at q2
   omega
  have hb1:(o*R+c)*wd+y' < O*R*wd:=pair_lt (pair_lt ho hc) hy'
  have hb2:o*S+n < O*S:=pair_lt ho hn
  have hq:((o*R+c)*S+n)*wd+y'≤1073741824:=by
   have:=pair_lt (pair_lt (pair_lt ho hc) hn) hy'
   omega
  refine (imeet_any b gb ga gk (R*L) (((o*R+c)*S+n)*wd+y') _ _ _ _ pa na ca pk nk ck x y hx hy hq (by omega) hb0 (by rw [hxl];exact hb2) (by rw [hyl];exact hb1) (by omega) (by omega) W hI.2 (hI.1 _ hb0)).mono ?_
  rintro e w' ⟨e1,hs',hn'⟩
  refine ⟨e1,⟨hI.1.add hn' hs' ?_,hI.2.stay hn'.stay⟩,hn'.stay,hn'.below⟩
  intro i hi
  show flat4 _ R S wd _=_
  rw [flat4_step _ hc hn hy']
  unfold inT
  by_cases e:c*L+n*st+y'=i
  ·rw [if_pos e,if_pos e]
  ·rw [if_neg e,if_neg e,Int.add_zero]
 have hb':Hid (b < w.heap.size):=hb
 clear h0 ca1 ck1 nx ny fx fy hx hy hxl hyl hbnd hst hS h5 h6 h7 hb hne
 haveI:Nonempty World:=⟨w⟩
 obtain ⟨NN,eNN⟩:∃ n,R*L=n:=⟨_,rfl⟩
 rw [eNN] at HE ⊢
 go_enter Tryz.func182,Tryz.ntmps182
 go_wp2_with fail
 refine (HE.out _ _ rfl rfl).mono ?_
 rintro e w1 ⟨rfl,⟨hS1,_⟩,hT1,hB1⟩
 have hU:=up_alloc w (.cells #[.slice (some ⟨b,0,none⟩) NN NN] 140)
 have HF:Hid (Sms w1 b NN (O*R*S*wd) (fun i=>flat4 (inT L R S wd st x y i) R S wd (O*R*S*wd))∧Stay b w w1∧Below b w w1):=⟨hS1,(Stay.of hU).trans hT1,(hU.mono (Nat.le_of_lt hb'.out)).trans hB1⟩
 clear hS1 hT1 hB1 hU
 go_wp2
 go_end0
 exact ⟨rfl,HF.out⟩
theorem kgather_any (R L O wd st S:Nat) (hS:stopsN L wd st=S) (h1:wd≤L) (h2:L≤4096) (h3:1≤st) (h4:st≤64) (h5:O*R*wd≤4096) (h6:O*S≤4096) (h7:R*L≤4096) (h8:O≤4096) (h9:R≤4096) (b gs ga gk:Nat) (pa:Option Addr) (na ca:Nat) (pk:Option Addr) (nk ck:Nat) (x y:List Int) (hx:RI x) (hy:RI y) (hxl:x.length=O*S) (hyl:y.length=R*L) (w:World)
  (hs:SlC w gs R L O wd st) (ca1:w.cell? ⟨ga,1,none⟩=some (.slice pa na ca)) (ck1:w.cell? ⟨gk,1,none⟩=some (.slice pk nk ck)) (nx:Nums .i64 w (.slice pa na ca) x) (ny:Nums .i64 w (.slice pk nk ck) y) (hne:ga≠b∧gk≠b) (fx:Off b (.slice pa na ca)) (fy:Off b (.slice pk nk ck)) (hb:b < w.heap.size) (h0:Sms w b (O*R*wd) 0 (fun _=>0)):
  Calls Tryz.prog 184 #[.slice (some ⟨b,0,none⟩) (O*R*wd) (O*R*wd),.pointer (some ⟨gs,0,none⟩),.pointer (some ⟨ga,0,none⟩),.pointer (some ⟨gk,0,none⟩)] w fun e w'=>e = .returned (.tuple #[])∧Sms w' b (O*R*wd) (O*R*S*wd) (fun i=>flat4 (kerT L R S wd st x y i) R S wd (O*R*S*wd))∧Stay b w w'∧Below b w w':=by
 have hbnd:O*R*S*wd≤1073741824:=by
  have q1:S≤4097:=by rw [← hS];unfold stopsN;have:=Nat.div_le_self (L - wd) st;omega
  have q2:O*R*S*wd=O*R*wd*S:=by rw [Nat.mul_assoc,Nat.mul_comm S wd,← Nat.mul_assoc]
  rw [q2]
  exact Nat.le_trans (Nat.mul_le_mul h5 q1) (by decide)
 have hst:∀ n,n < S→n*st+wd≤L:=fun n hn=>by
  unfold stopsN at hS
  have:n≤(L - wd) / st:=by omega
  have:=(Nat.le_div_iff_mul_le (by omega)).1 this
  omega
 have hmf:∀ (fn:Fn) (first cap:Array Value) (w:World),(Instr.makeFunc fn first cap).run Tryz.prog w = .ok (.func fn first cap) w:=fun _ _ _ _=>rfl
 obtain ⟨z0,z1,z2,z3,z4⟩:=hs
 have zl:=cell_lt z0
 have HE:Hid (∀ gb W0,W0=w.alloc (.cells #[.slice (some ⟨b,0,none⟩) (O*R*wd) (O*R*wd)] 140)→gb=w.heap.size→Calls Tryz.prog 101 #[.agg #[.int .i64 (R:Int),.int .i64 (L:Int),.int .i64 (O:Int),.int .i64 (wd:Int),.int .i64 (st:Int)],.func (.func 185) #[] #[.pointer (some ⟨gb,0,none⟩),.pointer (some ⟨ga,0,none⟩),.pointer (some ⟨gk,0,none⟩)]] W0 fun e w'=>e = .returned (.tuple #[])∧(Sms w' b (O*R*wd) (O*R*S*wd) (fun i=>flat4 (kerT L R S wd st x y i) R S wd (O*R*S*wd))∧Mt w' b gb ga gk (O*R*wd) pa na ca pk nk ck x y)∧Stay b W0 w'∧Below b W0 w'):=fun gb W0 eW egb=>by
  have hB:Below w.heap.size w W0:=by rw [eW];exact up_alloc w _
  have cgb:W0.cell? ⟨gb,0,none⟩=some (.slice (some ⟨b,0,none⟩) (O*R*wd) (O*R*wd)):=by rw [eW,egb];simp [go_sem]
  refine ceach_any _ (fun args W=>by simp [go_sem]) _ _ _ b R L O wd st S hS h1 h2 h3 h4 h5 h6 h7 h8 h9 (fun q W=>Sms W b (O*R*wd) q (fun i=>flat4 (kerT L R S wd st x y i) R S wd q)∧Mt W b gb ga gk (O*R*wd) pa na ca pk nk ck x y) (fun q W W' h hB=>⟨h.1.up hB,h.2.up hB⟩) ?_ W0 (Nat.lt_of_lt_of_le hb hB.size) ⟨h0.up hB,cgb,cell_low ca1 hB,cell_low ck1 hB,nx.up hB,ny.up hB,⟨by omega,hne⟩,fx,fy⟩
  intro o c n y' ho hc hn hy' W hI
  have hb0:c*L+n*st+y' < R*L:=by
   have q1:=hst n hn
   have q2:(c+1)*L≤R*L:=Nat.mul_le_mul_right L hc
   rw [Nat.add_mul,Nat.one_mul] at q2
   omega
  have hb1:(o*R+c)*wd+y' < O*R*wd:=pair_lt (pair_lt ho hc) hy'
  have hb2:o*S+n < O*S:=pair_lt ho hn
  have hq:((o*R+c)*S+n)*wd+y'≤1073741824:=by
   have:=pair_lt (pair_lt (pair_lt ho hc) hn) hy'
   omega
  refine (kmeet_any b gb ga gk (O*R*wd) (((o*R+c)*S+n)*wd+y') _ _ _ _ pa na ca pk nk ck x y hx hy hq (by omega) hb1 (by rw [hxl];exact hb2) (by rw [hyl];exact hb0) (by omega) (by omega) W hI.2 (hI.1 _ hb1)).mono ?_
  rintro e w' ⟨e1,hs',hn'⟩
  refine ⟨e1,⟨hI.1.add hn' hs' ?_,hI.2.stay hn'.stay⟩,hn'.stay,hn'.below⟩
  intro i hi
  show flat4 _ R S wd _=_
  rw [flat4_step _ hc hn hy']
  unfold kerT
  by_cases e:(o*R+c)*wd+y'=i
  ·rw [if_pos e,if_pos e]
  ·rw [if_neg e,if_neg e,Int.add_zero]
 have hb':Hid (b < w.heap.size):=hb
 clear h0 ca1 ck1 nx ny fx fy hx hy hxl hyl hbnd hst hS h5 h6 h7 hb hne
 haveI:Nonempty World:=⟨w⟩
 obtain ⟨NN,eNN⟩:∃ n,O*R*wd=n:=⟨_,rfl⟩
 rw [eNN] at HE ⊢
 go_enter Tryz.func184,Tryz.ntmps184
 go_wp2_with fail
 refine (HE.out _ _ rfl rfl).mono ?_
 rintro e w1 ⟨rfl,⟨hS1,_⟩,hT1,hB1⟩
 have hU:=up_alloc w (.cells #[.slice (some ⟨b,0,none⟩) NN NN] 140)
 have HF:Hid (Sms w1 b NN (O*R*S*wd) (fun i=>flat4 (kerT L R S wd st x y i) R S wd (O*R*S*wd))∧Stay b w w1∧Below b w w1):=⟨hS1,(Stay.of hU).trans hT1,(hU.mono (Nat.le_of_lt hb'.out)).trans hB1⟩
 clear hS1 hT1 hB1 hU
 go_wp2
 go_end0
 exact ⟨rfl,HF.out⟩
theorem five (W:World) (b:Nat) (x0 x1 x2 x3 x4:Value) {y0 y1 y2 y3 y4:Value} (h0:W.cell? ⟨b,0,none⟩=some y0) (h1:W.cell? ⟨b,1,none⟩=some y1) (h2:W.cell? ⟨b,2,none⟩=some y2) (h3:W.cell? ⟨b,3,none⟩=some y3) (h4:W.cell? ⟨b,4,none⟩=some y4):
  (((((W.setCell ⟨b,0,none⟩ x0).setCell ⟨b,1,none⟩ x1).setCell ⟨b,2,none⟩ x2).setCell ⟨b,3,none⟩ x3).setCell ⟨b,4,none⟩ x4).cell? ⟨b,0,none⟩=some x0∧(((((W.setCell ⟨b,0,none⟩ x0).setCell ⟨b,1,none⟩ x1).setCell ⟨b,2,none⟩ x2).setCell ⟨b,3,none⟩ x3).setCell ⟨b,4,none⟩ x4).cell? ⟨b,1,none⟩=some x1∧(((((W.setCell ⟨b,0,none⟩ x0).setCell ⟨b,1,none⟩ x1).setCell ⟨b,2,none⟩ x2).setCell ⟨b,3,none⟩ x3).setCell ⟨b,4,none⟩ x4).cell? ⟨b,2,none⟩=some x2∧(((((W.setCell ⟨b,0,none⟩ x0).setCell ⟨b,1,none⟩ x1).setCell ⟨b,2,none⟩ x2).setCell ⟨b,3,none⟩ x3).setCell ⟨b,4,none⟩ x4).cell? ⟨b,3,none⟩=some x3∧(((((W.setCell ⟨b,0,none⟩ x0).setCell ⟨b,1,none⟩ x1).setCell ⟨b,2,none⟩ x2).setCell ⟨b,3,none⟩ x3).setCell ⟨b,4,none⟩ x4).cell? ⟨b,4,none⟩=some x4:=by
 refine ⟨?_,?_,?_,?_,?_⟩
 ·rw [wset_off (by omega),wset_off (by omega),wset_off (by omega),wset_off (by omega)]
  exact wset_same h0
 ·rw [wset_off (by omega),wset_off (by omega),wset_off (by omega)]
  exact wset_same (by rw [wset_off (by omega)];exact h1)
 ·rw [wset_off (by omega),wset_off (by omega)]
  exact wset_same (by rw [wset_off (by omega),wset_off (by omega)];exact h2)
 ·rw [wset_off (by omega)]
  exact wset_same (by rw [wset_off (by omega),wset_off (by omega),wset_off (by omega)];exact h3)
 ·exact wset_same (by rw [wset_off (by omega),wset_off (by omega),wset_off (by omega),wset_off (by omega)];exact h4)
theorem gat_congr {d:List Int} {F G:Nat→Int} {N:Nat} (hN:prodN (ntl d)=N) (h:∀ i,i < N→rnd (F i)=G i):gatV d F=if goodN (ntl d) then (List.range N).map G else []:=by
 unfold gatV
 by_cases hg:goodN (ntl d)
 ·rw [if_pos hg,if_pos hg,hN]
  refine List.map_congr_left fun i hi=>h i ?_
  simpa using hi
 ·rw [if_neg hg,if_neg hg]
theorem stops_le {L wd st:Nat} (h:1≤wd) (h1:wd≤L):stopsN L wd st≤L:=by
 unfold stopsN
 have:=Nat.div_le_self (L - wd) st
 omega
theorem stops_room {L wd st n:Nat} (h1:wd≤L) (h3:1≤st) (hn:n < stopsN L wd st):n*st+wd≤L:=by
 unfold stopsN at hn
 have:n≤(L - wd) / st:=by omega
 have:=(Nat.le_div_iff_mul_le (by omega)).1 this
 omega
theorem len_ne {x:List Int} {n:Nat} (h:x.length=n) (hn:1≤n):x≠[]:=by
 intro e
 rw [e] at h
 simp at h
 omega
theorem row_gath (R L O wd st S:Nat) (hS:stopsN L wd st=S) (h0:1≤wd) (h1:wd≤L) (h2:L≤4096) (h3:1≤st) (h4:st≤64) (hR:1≤R) (hO:1≤O) (h5:O*R*wd≤4096) (h7:R*L≤4096) (h8:O≤4096) (h9:R≤4096) (gs ga gk:Nat) (pa:Option Addr) (na ca:Nat) (pk:Option Addr) (nk ck:Nat) (x y:List Int) (hx:RI x) (hy:RI y) (hxl:x.length=R*L) (hyl:y.length=O*R*wd) (p:Option Addr) (n c:Nat) (w:World) (hT:Hid (Tz w)) (hd:Nums .i64 w (.slice p n c) [(O:Int),(S:Int)])
  (hs:SlC w gs R L O wd st) (ca1:w.cell? ⟨ga,1,none⟩=some (.slice pa na ca)) (ck1:w.cell? ⟨gk,1,none⟩=some (.slice pk nk ck)) (nx:Nums .i64 w (.slice pa na ca) x) (ny:Nums .i64 w (.slice pk nk ck) y):
  Calls Tryz.prog 98 #[.slice p n c,.func (.func 100) #[] #[.pointer (some ⟨gs,0,none⟩),.pointer (some ⟨ga,0,none⟩),.pointer (some ⟨gk,0,none⟩)]] w fun e w'=>∃ v',e = .returned (.tuple #[v',.int .i64 (gatE [(O:Int),(S:Int)])])∧TRes w' w.heap.size v' (newD [(O:Int),(S:Int)]) (if goodN (ntl [(O:Int),(S:Int)]) then convV R L wd O S st x y else [])∧Below w.heap.size w w':=by
 have hSL:S≤4096:=by rw [← hS];exact Nat.le_trans (stops_le h0 h1) h2
 by_cases hg:goodN (ntl [(O:Int),(S:Int)])
 ·have hG:=good_two.1 hg
  have h5:O*R*wd≤4096:=h5
  have h6:O*S≤4096:=hG.2.2
  have h7:R*L≤4096:=h7
  have hM:O*R*S*wd≤1073741824:=by
   have q2:O*R*S*wd=O*R*wd*S:=by rw [Nat.mul_assoc,Nat.mul_comm S wd,← Nat.mul_assoc]
   rw [q2]
   exact Nat.le_trans (Nat.mul_le_mul h5 hSL) (by decide)
  have:=gathered_any 100 (fun args W=>by simp [go_sem]) (.pointer (some ⟨gs,0,none⟩)) (.pointer (some ⟨ga,0,none⟩)) (.pointer (some ⟨gk,0,none⟩)) p n c [(O:Int),(S:Int)] (RI_two h8 hSL) (fun i=>flat4 (rowT L R S wd st x y i) R S wd (O*R*S*wd)) (O*R*S*wd) hM w hT hd (by
   intro _ W b hB hb hbl hz
   rw [prod_two] at hz ⊢
   have la:=cell_lt ca1
   have lk:=cell_lt ck1
   exact rgather_any R L O wd st S hS h1 h2 h3 h4 h5 h6 h7 h8 h9 b gs ga gk pa na ca pk nk ck x y hx hy hxl hyl W (hs.up hB) (cell_low ca1 hB) (cell_low ck1 hB) (nx.up hB) (ny.up hB) ⟨by omega,by omega⟩ (nx.off (len_ne hxl (Nat.mul_le_mul hR (show 1≤L by omega))) hb) (ny.off (len_ne hyl (Nat.mul_le_mul (Nat.mul_le_mul hO hR) h0)) hb) hbl hz)
  rw [gat_congr (G:=convN R L wd S st x y) (prod_two _ _) (fun i hi=>row_total x y hi)] at this
  exact this
 ·have:=gathered_any 100 (fun args W=>by simp [go_sem]) (.pointer (some ⟨gs,0,none⟩)) (.pointer (some ⟨ga,0,none⟩)) (.pointer (some ⟨gk,0,none⟩)) p n c [(O:Int),(S:Int)] (RI_two h8 hSL) (fun i=>0) 0 (by omega) w hT hd (fun h=>absurd h hg)
  rw [show gatV [(O:Int),(S:Int)] (fun i=>0) = [] from if_neg hg] at this
  rw [if_neg hg]
  exact this
theorem in_gath (R L O wd st S:Nat) (hS:stopsN L wd st=S) (h0:1≤wd) (h1:wd≤L) (h2:L≤4096) (h3:1≤st) (h4:st≤64) (hR:1≤R) (hO:1≤O) (h5:O*R*wd≤4096) (h6:O*S≤4096) (h8:O≤4096) (h9:R≤4096) (gs ga gk:Nat) (pa:Option Addr) (na ca:Nat) (pk:Option Addr) (nk ck:Nat) (x y:List Int) (hx:RI x) (hy:RI y) (hxl:x.length=O*S) (hyl:y.length=O*R*wd) (p:Option Addr) (n c:Nat) (w:World) (hT:Hid (Tz w)) (hd:Nums .i64 w (.slice p n c) [(R:Int),(L:Int)])
  (hs:SlC w gs R L O wd st) (ca1:w.cell? ⟨ga,1,none⟩=some (.slice pa na ca)) (ck1:w.cell? ⟨gk,1,none⟩=some (.slice pk nk ck)) (nx:Nums .i64 w (.slice pa na ca) x) (ny:Nums .i64 w (.slice pk nk ck) y):
  Calls Tryz.prog 98 #[.slice p n c,.func (.func 182) #[] #[.pointer (some ⟨gs,0,none⟩),.pointer (some ⟨ga,0,none⟩),.pointer (some ⟨gk,0,none⟩)]] w fun e w'=>∃ v',e = .returned (.tuple #[v',.int .i64 (gatE [(R:Int),(L:Int)])])∧TRes w' w.heap.size v' (newD [(R:Int),(L:Int)]) (if goodN (ntl [(R:Int),(L:Int)]) then gradV O R S wd st L x y else [])∧Below w.heap.size w w':=by
 have hSL:S≤4096:=by rw [← hS];exact Nat.le_trans (stops_le h0 h1) h2
 by_cases hg:goodN (ntl [(R:Int),(L:Int)])
 ·have hG:=good_two.1 hg
  have h5:O*R*wd≤4096:=h5
  have h6:O*S≤4096:=h6
  have h7:R*L≤4096:=hG.2.2
  have hM:O*R*S*wd≤1073741824:=by
   have q2:O*R*S*wd=O*R*wd*S:=by rw [Nat.mul_assoc,Nat.mul_comm S wd,← Nat.mul_assoc]
   rw [q2]
   exact Nat.le_trans (Nat.mul_le_mul h5 hSL) (by decide)
  have:=gathered_any 182 (fun args W=>by simp [go_sem]) (.pointer (some ⟨gs,0,none⟩)) (.pointer (some ⟨ga,0,none⟩)) (.pointer (some ⟨gk,0,none⟩)) p n c [(R:Int),(L:Int)] (RI_two h9 h2) (fun i=>flat4 (inT L R S wd st x y i) R S wd (O*R*S*wd)) (O*R*S*wd) hM w hT hd (by
   intro _ W b hB hb hbl hz
   rw [prod_two] at hz ⊢
   have la:=cell_lt ca1
   have lk:=cell_lt ck1
   exact igather_any R L O wd st S hS h1 h2 h3 h4 h5 h6 h7 h8 h9 b gs ga gk pa na ca pk nk ck x y hx hy hxl hyl W (hs.up hB) (cell_low ca1 hB) (cell_low ck1 hB) (nx.up hB) (ny.up hB) ⟨by omega,by omega⟩ (nx.off (len_ne hxl (Nat.mul_le_mul hO (show 1≤S by rw [← hS];exact Nat.le_add_left 1 _))) hb) (ny.off (len_ne hyl (Nat.mul_le_mul (Nat.mul_le_mul hO hR) h0)) hb) hbl hz)
  rw [gat_congr (G:=gradN O R S wd st L x y) (prod_two _ _) (fun i hi=>in_total x y hi (fun n hn=>stops_room h1 h3 (by rw [hS];exact hn)))] at this
  exact this
 ·have:=gathered_any 182 (fun args W=>by simp [go_sem]) (.pointer (some ⟨gs,0,none⟩)) (.pointer (some ⟨ga,0,none⟩)) (.pointer (some ⟨gk,0,none⟩)) p n c [(R:Int),(L:Int)] (RI_two h9 h2) (fun i=>0) 0 (by omega) w hT hd (fun h=>absurd h hg)
  rw [show gatV [(R:Int),(L:Int)] (fun i=>0) = [] from if_neg hg] at this
  rw [if_neg hg]
  exact this
theorem ker_gath (R L O wd st S:Nat) (hS:stopsN L wd st=S) (h0:1≤wd) (h1:wd≤L) (h2:L≤4096) (h3:1≤st) (h4:st≤64) (hR:1≤R) (hO:1≤O) (h6:O*S≤4096) (h7:R*L≤4096) (h8:O≤4096) (h9:R≤4096) (gs ga gk:Nat) (pa:Option Addr) (na ca:Nat) (pk:Option Addr) (nk ck:Nat) (x y:List Int) (hx:RI x) (hy:RI y) (hxl:x.length=O*S) (hyl:y.length=R*L) (p:Option Addr) (n c:Nat) (w:World) (hT:Hid (Tz w)) (hd:Nums .i64 w (.slice p n c) [(O:Int),(R:Int),(wd:Int)])
  (hs:SlC w gs R L O wd st) (ca1:w.cell? ⟨ga,1,none⟩=some (.slice pa na ca)) (ck1:w.cell? ⟨gk,1,none⟩=some (.slice pk nk ck)) (nx:Nums .i64 w (.slice pa na ca) x) (ny:Nums .i64 w (.slice pk nk ck) y):
  Calls Tryz.prog 98 #[.slice p n c,.func (.func 184) #[] #[.pointer (some ⟨gs,0,none⟩),.pointer (some ⟨ga,0,none⟩),.pointer (some ⟨gk,0,none⟩)]] w fun e w'=>∃ v',e = .returned (.tuple #[v',.int .i64 (gatE [(O:Int),(R:Int),(wd:Int)])])∧TRes w' w.heap.size v' (newD [(O:Int),(R:Int),(wd:Int)]) (if goodN (ntl [(O:Int),(R:Int),(wd:Int)]) then kerV O R S L wd st x y else [])∧Below w.heap.size w w':=by
 have hSL:S≤4096:=by rw [← hS];exact Nat.le_trans (stops_le h0 h1) h2
 by_cases hg:goodN (ntl [(O:Int),(R:Int),(wd:Int)])
 ·have hG:=good_three.1 hg
  have h5:O*R*wd≤4096:=hG.2.2.2
  have h6:O*S≤4096:=h6
  have h7:R*L≤4096:=h7
  have hM:O*R*S*wd≤1073741824:=by
   have q2:O*R*S*wd=O*R*wd*S:=by rw [Nat.mul_assoc,Nat.mul_comm S wd,← Nat.mul_assoc]
   rw [q2]
   exact Nat.le_trans (Nat.mul_le_mul h5 hSL) (by decide)
  have:=gathered_any 184 (fun args W=>by simp [go_sem]) (.pointer (some ⟨gs,0,none⟩)) (.pointer (some ⟨ga,0,none⟩)) (.pointer (some ⟨gk,0,none⟩)) p n c [(O:Int),(R:Int),(wd:Int)] (RI_three h8 h9 (Nat.le_trans h1 h2)) (fun i=>flat4 (kerT L R S wd st x y i) R S wd (O*R*S*wd)) (O*R*S*wd) hM w hT hd (by
   intro _ W b hB hb hbl hz
   rw [prod_three] at hz ⊢
   have la:=cell_lt ca1
   have lk:=cell_lt ck1
   exact kgather_any R L O wd st S hS h1 h2 h3 h4 h5 h6 h7 h8 h9 b gs ga gk pa na ca pk nk ck x y hx hy hxl hyl W (hs.up hB) (cell_low ca1 hB) (cell_low ck1 hB) (nx.up hB) (ny.up hB) ⟨by omega,by omega⟩ (nx.off (len_ne hxl (Nat.mul_le_mul hO (show 1≤S by rw [← hS];exact Nat.le_add_left 1 _))) hb) (ny.off (len_ne hyl (Nat.mul_le_mul hR (show 1≤L by omega))) hb) hbl hz)
  rw [gat_congr (G:=kerN R S L wd st x y) (prod_three _ _ _) (fun i hi=>ker_total x y hi)] at this
  exact this
 ·have:=gathered_any 184 (fun args W=>by simp [go_sem]) (.pointer (some ⟨gs,0,none⟩)) (.pointer (some ⟨ga,0,none⟩)) (.pointer (some ⟨gk,0,none⟩)) p n c [(O:Int),(R:Int),(wd:Int)] (RI_three h8 h9 (Nat.le_trans h1 h2)) (fun i=>0) 0 (by omega) w hT hd (fun h=>absurd h hg)
  rw [show gatV [(O:Int),(R:Int),(wd:Int)] (fun i=>0) = [] from if_neg hg] at this
  rw [if_neg hg]
  exact this
/-- Row: what the document says. -/
abbrev rwA (d x d' y:List Int) (st:Int):Prop:=isP d x∧isP d' y∧1≤st∧st≤64
abbrev rwS (d d':List Int):Prop:=d.length=2∧d'.length=3∧d.getD 0 0=d'.getD 1 0∧d'.getD 2 0≤d.getD 1 0
def rwO (d d':List Int) (st:Int):List Int:=[d'.getD 0 0,((stopsN (d.getD 1 0).toNat (d'.getD 2 0).toNat st.toNat:Nat):Int)]
def rwE (d x d' y:List Int) (st:Int):Int:=if rwA d x d' y st then if rwS d d' then gatE (rwO d d' st) else 4 else 1
def rwD (d x d' y:List Int) (st:Int):List Int:=if rwA d x d' y st∧rwS d d' then newD (rwO d d' st) else []
def rwV (d x d' y:List Int) (st:Int):List Int:=if rwA d x d' y st∧rwS d d' then if goodN (ntl (rwO d d' st)) then convV (d.getD 0 0).toNat (d.getD 1 0).toNat (d'.getD 2 0).toNat (d'.getD 0 0).toNat (stopsN (d.getD 1 0).toNat (d'.getD 2 0).toNat st.toNat) st.toNat x y else [] else []
theorem rw_arg {d x d' y:List Int} {st:Int} (h:¬ rwA d x d' y st):rwE d x d' y st=1∧rwD d x d' y st = []∧rwV d x d' y st = []:=⟨if_neg h,if_neg fun c=>h c.1,if_neg fun c=>h c.1⟩
theorem rw_shape {d x d' y:List Int} {st:Int} (h1:rwA d x d' y st) (h:¬ rwS d d'):rwE d x d' y st=4∧rwD d x d' y st = []∧rwV d x d' y st = []:=⟨by unfold rwE;rw [if_pos h1,if_neg h],if_neg fun c=>h c.2,if_neg fun c=>h c.2⟩
theorem rw_fine {x y:List Int} {R L O wd st S:Nat} (h1:rwA [(R:Int),(L:Int)] x [(O:Int),(R:Int),(wd:Int)] y st) (h:wd≤L) (hS:stopsN L wd st=S):rwE [(R:Int),(L:Int)] x [(O:Int),(R:Int),(wd:Int)] y st=gatE [(O:Int),(S:Int)]∧rwD [(R:Int),(L:Int)] x [(O:Int),(R:Int),(wd:Int)] y st=newD [(O:Int),(S:Int)]∧rwV [(R:Int),(L:Int)] x [(O:Int),(R:Int),(wd:Int)] y st=if goodN (ntl [(O:Int),(S:Int)]) then convV R L wd O S st x y else []:=by
 have hs:rwS [(R:Int),(L:Int)] [(O:Int),(R:Int),(wd:Int)]:=⟨rfl,rfl,rfl,by simpa using h⟩
 subst hS
 refine ⟨?_,?_,?_⟩
 ·unfold rwE
  rw [if_pos h1,if_pos hs]
  rfl
 ·unfold rwD
  rw [if_pos ⟨h1,hs⟩]
  rfl
 ·unfold rwV
  rw [if_pos ⟨h1,hs⟩]
  rfl
/-- BackIn: what the document says. -/
abbrev biA (d x d' y:List Int) (st lg:Int):Prop:=isP d x∧isP d' y∧(1≤st∧st≤64)∧1≤lg∧lg≤4096
abbrev biS (d d':List Int) (st lg:Int):Prop:=d.length=2∧d'.length=3∧d.getD 0 0=d'.getD 0 0∧d'.getD 2 0≤lg∧d.getD 1 0=((stopsN lg.toNat (d'.getD 2 0).toNat st.toNat:Nat):Int)
def biO (d':List Int) (lg:Int):List Int:=[d'.getD 1 0,lg]
def biE (d x d' y:List Int) (st lg:Int):Int:=if biA d x d' y st lg then if biS d d' st lg then gatE (biO d' lg) else 4 else 1
def biD (d x d' y:List Int) (st lg:Int):List Int:=if biA d x d' y st lg∧biS d d' st lg then newD (biO d' lg) else []
def biV (d x d' y:List Int) (st lg:Int):List Int:=if biA d x d' y st lg∧biS d d' st lg then if goodN (ntl (biO d' lg)) then gradV (d.getD 0 0).toNat (d'.getD 1 0).toNat (d.getD 1 0).toNat (d'.getD 2 0).toNat st.toNat lg.toNat x y else [] else []
theorem bi_arg {d x d' y:List Int} {st lg:Int} (h:¬ biA d x d' y st lg):biE d x d' y st lg=1∧biD d x d' y st lg = []∧biV d x d' y st lg = []:=⟨if_neg h,if_neg fun c=>h c.1,if_neg fun c=>h c.1⟩
theorem bi_shape {d x d' y:List Int} {st lg:Int} (h1:biA d x d' y st lg) (h:¬ biS d d' st lg):biE d x d' y st lg=4∧biD d x d' y st lg = []∧biV d x d' y st lg = []:=⟨by unfold biE;rw [if_pos h1,if_neg h],if_neg fun c=>h c.2,if_neg fun c=>h c.2⟩
theorem bi_fine {x y:List Int} {R L O wd st S:Nat} (h1:biA [(O:Int),(S:Int)] x [(O:Int),(R:Int),(wd:Int)] y st L) (h:wd≤L) (hS:stopsN L wd st=S):biE [(O:Int),(S:Int)] x [(O:Int),(R:Int),(wd:Int)] y st L=gatE [(R:Int),(L:Int)]∧biD [(O:Int),(S:Int)] x [(O:Int),(R:Int),(wd:Int)] y st L=newD [(R:Int),(L:Int)]∧biV [(O:Int),(S:Int)] x [(O:Int),(R:Int),(wd:Int)] y st L=if goodN (ntl [(R:Int),(L:Int)]) then gradV O R S wd st L x y else []:=by
 have hs:biS [(O:Int),(S:Int)] [(O:Int),(R:Int),(wd:Int)] st L:=⟨rfl,rfl,rfl,by simpa using h,by rw [← hS];rfl⟩
 refine ⟨?_,?_,?_⟩
 ·unfold biE
  rw [if_pos h1,if_pos hs]
  rfl
 ·unfold biD
  rw [if_pos ⟨h1,hs⟩]
  rfl
 ·unfold biV
  rw [if_pos ⟨h1,hs⟩]
  rfl
/-- BackKernel: what the document says. -/
abbrev bkS (d d':List Int) (st lg:Int):Prop:=d.length=2∧d'.length=2∧lg≤d'.getD 1 0∧d.getD 1 0=((stopsN (d'.getD 1 0).toNat lg.toNat st.toNat:Nat):Int)
def bkO (d d':List Int) (lg:Int):List Int:=[d.getD 0 0,d'.getD 0 0,lg]
def bkE (d x d' y:List Int) (st lg:Int):Int:=if biA d x d' y st lg then if bkS d d' st lg then gatE (bkO d d' lg) else 4 else 1
def bkD (d x d' y:List Int) (st lg:Int):List Int:=if biA d x d' y st lg∧bkS d d' st lg then newD (bkO d d' lg) else []
def bkV (d x d' y:List Int) (st lg:Int):List Int:=if biA d x d' y st lg∧bkS d d' st lg then if goodN (ntl (bkO d d' lg)) then kerV (d.getD 0 0).toNat (d'.getD 0 0).toNat (d.getD 1 0).toNat (d'.getD 1 0).toNat lg.toNat st.toNat x y else [] else []
theorem bk_arg {d x d' y:List Int} {st lg:Int} (h:¬ biA d x d' y st lg):bkE d x d' y st lg=1∧bkD d x d' y st lg = []∧bkV d x d' y st lg = []:=⟨if_neg h,if_neg fun c=>h c.1,if_neg fun c=>h c.1⟩
theorem bk_shape {d x d' y:List Int} {st lg:Int} (h1:biA d x d' y st lg) (h:¬ bkS d d' st lg):bkE d x d' y st lg=4∧bkD d x d' y st lg = []∧bkV d x d' y st lg = []:=⟨by unfold bkE;rw [if_pos h1,if_neg h],if_neg fun c=>h c.2,if_neg fun c=>h c.2⟩
theorem bk_fine {x y:List Int} {R L O wd st S:Nat} (h1:biA [(O:Int),(S:Int)] x [(R:Int),(L:Int)] y st wd) (h:wd≤L) (hS:stopsN L wd st=S):bkE [(O:Int),(S:Int)] x [(R:Int),(L:Int)] y st wd=gatE [(O:Int),(R:Int),(wd:Int)]∧bkD [(O:Int),(S:Int)] x [(R:Int),(L:Int)] y st wd=newD [(O:Int),(R:Int),(wd:Int)]∧bkV [(O:Int),(S:Int)] x [(R:Int),(L:Int)] y st wd=if goodN (ntl [(O:Int),(R:Int),(wd:Int)]) then kerV O R S L wd st x y else []:=by
 have hs:bkS [(O:Int),(S:Int)] [(R:Int),(L:Int)] st wd:=⟨rfl,rfl,by simpa using h,by rw [← hS];rfl⟩
 refine ⟨?_,?_,?_⟩
 ·unfold bkE
  rw [if_pos h1,if_pos hs]
  rfl
 ·unfold bkD
  rw [if_pos ⟨h1,hs⟩]
  rfl
 ·unfold bkV
  rw [if_pos ⟨h1,hs⟩]
  rfl
end Go.Proofs.YtaiigfhicaelkabGreatDoor.Wd
