/- What a tape reckons, as the document's t -/
import Derived.Test.YtjlofobnmjompaaGreatDoorP12
import Derived.Test.YtjlofobnmjompaaGreatDoorP14
import Derived.Test.YtjlofobnmjompaaGreatDoorP15
import Derived.Test.YtjlofobnmjompaaGreatDoorP16
set_option linter.unusedVariables false
set_option linter.unusedSimpArgs false
set_option maxHeartbeats 16000000
set_option maxRecDepth 16000
namespace Go.Proofs.YtjlofobnmjompaaGreatDoor.Wd
open Go.RowKit Fx
abbrev d_A (op:Int):Prop:=op=2∨op=3∨op=4∨op=6∨op=12
abbrev byP (op:Int):Prop:=op=5∨op=8∨op=11∨op=12∨op=13
/-- The table. -/
def rkE (op:Int) (D X D' X':List Int) (k:Int):Int:=
 if op=2∨op=3∨op=4 then b_C D X D' X' else if op=5 then e_I D X else if op=6 then mE D X D' X' else if op=7 then flE D X else if op=8 then smE D X k
 else if op=9∨op=10 then k_7 D X else if op=11 then g_Z k D X else if op=12 then rwE D X D' X' k else if op=13 then plE D X k else j_A D X [(X.length:Int)]
def rkD (op:Int) (D X D' X':List Int) (k:Int):List Int:=
 if op=2∨op=3∨op=4 then b_J D X D' X' else if op=5 then f_s D X else if op=6 then mD D X D' X' else if op=7 then flD D X else if op=8 then smD D X k
 else if op=9∨op=10 then [] else if op=11 then k_I k D X else if op=12 then rwD D X D' X' k else if op=13 then plD D X k else j_B D X [(X.length:Int)]
def rkV (op:Int) (D X D' X':List Int) (k:Int):List Int:=
 if op=2 then b_U (fun a b=>Fx.hold (a+b)) D X D' X' else if op=3 then b_U (fun a b=>Fx.hold (a - b)) D X D' X' else if op=4 then b_U Fx.mulI D X D' X' else if op=5 then f_t D X k else if op=6 then mV D X D' X' else if op=7 then flV D X else if op=8 then smV D X k
 else if op=9 then (if isP D X then [p_9 D X] else []) else if op=10 then (if isP D X then [h_N D X] else []) else if op=11 then m_r k D X else if op=12 then rwV D X D' X' k else if op=13 then plV D X k else k_6 D X [(X.length:Int)]
/-- A tensor: its numbers are Go's. -/
def c_r (D X:List Int):Prop:=isP D X/\RI D/\RI X
theorem i_G {D:List Int} (h:goodN (ntl D)):RI D:=by
 have:=j_j h.le;rwa [l_i h.2.1] at this
theorem f_U {D X:List Int} (h:isP D X) (E:RI X):c_r D X:=⟨h,i_G h.1,E⟩
theorem f_D {J:List Nat} {X:List Int} (h:goodN J) (D:X.length=a_e J):isP (itl J) X:=by
 unfold isP;rw [a_p];exact ⟨h,D⟩
theorem c_z {α:Type} {l:List α} {f:α->Int} (h:∀ a,a∈l->InR (f a)):RI (l.map f):=fun y D=>by
 obtain ⟨a,E,rfl⟩:=List.mem_map.1 D;exact h a E
theorem d_d {x:List Int} (h:RI x) (i:Nat):InR (x.getD i 0):=by
 rcases Nat.lt_or_ge i x.length with D|D
 ·exact h.at i D
 ·rw [List.getD_eq_getElem?_getD,List.getElem?_eq_none D];show InR 0;unfold InR;omega
theorem h_Z {op:Int->Int->Int} (O:∀ a b,InR (op a b)) {d x d' y:List Int} (h:b_C d x d' y=0):c_r (b_J d x d' y) (b_U op d x d' y):=by
 by_cases D:isP d x/\isP d' y
 ·by_cases H:b_x d d'=0
  ·obtain ⟨a,b,J,I⟩:=n_V D H;obtain ⟨_,M,L⟩:=I.E (op:=op);rw [M,L];exact f_U (f_D I.gJ (by simp)) (c_z fun i _=>O _ _)
  ·rw [(j_v (op:=op) D H).1] at h;exact absurd h H
 ·rw [(f_r (op:=op) D).1] at h;cases h
theorem m_s {d x:List Int} {k:Int} (h:e_I d x=0):c_r (f_s d x) (f_t d x k):=by
 unfold e_I at h;unfold f_s f_t;by_cases D:isP d x
 ·rw [if_pos D,if_pos D];exact f_U ⟨D.1,by rw [List.length_map];exact D.2⟩ (c_z fun i _=>e_S _ _)
 ·rw [if_neg D] at h;cases h
theorem r_V {k:Int} {d x:List Int} (H:RI x) (h:g_Z k d x=0):c_r (k_I k d x) (m_r k d x):=by
 unfold g_Z at h;unfold k_I m_r;by_cases D:(1<=k/\k<=5)/\isP d x
 ·rw [if_pos D,if_pos D];exact f_U ⟨D.2.1,by rw [List.length_map];exact D.2.2⟩ (c_z fun i E=>o_o (H i E))
 ·rw [if_neg D] at h;cases h
theorem s_0 {d x d':List Int} (H:RI x) (h:j_A d x d'=0):c_r (j_B d x d') (k_6 d x d'):=by
 unfold j_A at h;unfold j_B k_6;by_cases D:isP d x/\goodN (ntl d')
 ·rw [if_pos D] at h;by_cases E:a_e (ntl d')=x.length
  ·rw [if_pos ⟨D,E⟩,if_pos ⟨D,E⟩];exact f_U ⟨D.2,E.symm⟩ H
  ·rw [if_neg E] at h;cases h
 ·rw [if_neg D] at h;cases h
theorem p_f (v:Int):isP [] [v]:=by
 unfold isP;refine ⟨⟨by simp [ntl],fun y D=>by simp [ntl] at D,by simp [ntl,a_e]⟩,by simp [ntl,a_e]⟩
theorem r_W {d x:List Int} (v:Int) (E:InR v):c_r [] [v]:=f_U (p_f v) fun y D=>by
 simp at D;subst D;exact E
theorem o_q (d x:List Int):InR (p_9 d x):=by
 unfold p_9
 split
 ·exact hold_rng _
 ·unfold InR;omega
theorem m_t (d x:List Int):InR (h_N d x):=by
 unfold h_N i_r
 split
 ·exact hold_rng _
 ·unfold InR;omega
theorem t_t {d x:List Int} (L:RI x) (h:flE d x=0):c_r (flD d x) (flV d x):=by
 unfold flE at h;unfold flD flV;by_cases D:isP d x
 ·rw [if_pos D] at h;by_cases E:d.length=2
  ·rw [if_pos ⟨D,E⟩,if_pos ⟨D,E⟩];obtain ⟨H,I,rfl,R,J,M,O⟩:=a_Y D E;show c_r [(I:Int),(H:Int)] (n_4 H I x);refine f_U (l_1 (by unfold n_4;simp [Nat.mul_comm]) M J (by rw [Nat.mul_comm];exact O)) ?_;unfold n_4;exact c_z fun i _=>d_d L _
  ·rw [if_neg E] at h;cases h
 ·rw [if_neg D] at h;cases h
theorem m_g {d x d' y:List Int} (h:mE d x d' y=0):c_r (mD d x d' y) (mV d x d' y):=by
 unfold mE at h;unfold mD mV;by_cases J:isP d x/\isP d' y
 ·rw [if_pos J] at h;by_cases D:mP d x d' y
  ·rw [if_pos D] at h;by_cases I:mG d d'
   ·rw [if_pos ⟨D,I⟩,if_pos ⟨D,I⟩];obtain ⟨A,C,rfl,_⟩:=a_Y D.1.1 D.2.2.1;obtain ⟨L,E,rfl,_⟩:=a_Y D.1.2 D.2.1;show c_r [(A:Int),(E:Int)] (s_z A C E x y);have H:=s_y.1 I;refine f_U (l_1 (by unfold s_z;simp) H.1 H.2.1 H.2.2) ?_;unfold s_z;exact c_z fun i _=>by unfold t_r rnd;exact hold_rng _
   ·rw [if_neg I] at h;cases h
  ·rw [if_neg D] at h;cases h
 ·rw [if_neg J] at h;cases h
theorem t_B {d x:List Int} {D:Int} (h:smE d x D=0):c_r (smD d x D) (smV d x D):=by
 unfold smE at h;unfold smD smV;by_cases H:smP d x D
 ·rw [if_pos H,if_pos H];have J:=H.1.1
  have I:D.toNat < (ntl d).length:=by
   have:=H.2;rw [a_R];omega
  have E:goodN (b_l (ntl d) D.toNat):=d_a J _ I;refine f_U (f_D E (by unfold o_9;simp)) ?_;unfold o_9;exact c_z fun i _=>by unfold s_A;exact hold_rng _
 ·rw [if_neg H] at h;cases h
theorem t_C {d x d' y:List Int} {st:Int} (h:rwE d x d' y st=0):c_r (rwD d x d' y st) (rwV d x d' y st):=by
 unfold rwE at h;unfold rwD rwV;by_cases D:rwA d x d' y st
 ·rw [if_pos D] at h;by_cases E:rwS d d'
  ·rw [if_pos E] at h;rw [if_pos ⟨D,E⟩,if_pos ⟨D,E⟩];unfold f_1 at h;by_cases H:goodN (ntl (rwO d d' st))
   ·unfold d_V;rw [if_pos H,if_pos H];obtain ⟨O,C,W,rfl,_⟩:=c_d D.2.1 E.2.1;refine f_U ⟨H,?_⟩ ?_
    ·rw [l_8];exact (c_k O _).symm
    ·unfold h_V;exact c_z fun i _=>by unfold l_7 rnd;exact hold_rng _
   ·rw [if_neg H] at h;cases h
  ·rw [if_neg E] at h;cases h
 ·rw [if_neg D] at h;cases h
theorem t_D {d x:List Int} {wd:Int} (U:RI x) (h:plE d x wd=0):c_r (plD d x wd) (plV d x wd):=by
 unfold plE at h;unfold plD plV;by_cases H:isP d x
 ·rw [if_pos H] at h;by_cases E:d.length=2
  ·rw [if_pos E] at h;by_cases J:plW d wd
   ·rw [if_pos ⟨H,E,J⟩,if_pos ⟨H,E,J⟩];obtain ⟨I,D,rfl,hl,R,h1,V⟩:=a_Y H E;have M:1<=wd/\wd<=(D:Int):=J;obtain ⟨W,rfl⟩:∃ W:Nat,wd=W:=⟨wd.toNat,by omega⟩
    show c_r [(I:Int),((D / W:Nat):Int)] (h_X I D (D / W) W x);have O:1<=D / W:=Nat.div_pos (by omega) (by omega);have L:I*(D / W)<=4096:=Nat.le_trans (Nat.mul_le_mul_left I (Nat.div_le_self D W)) V;refine f_U (l_1 (h_Y _ _ _ _ _) R O L) ?_;unfold h_X;exact c_z fun i _=>d_d U _
   ·rw [if_neg J] at h;cases h
  ·rw [if_neg E] at h;cases h
 ·rw [if_neg H] at h;cases h
theorem t_E {op:Int} (R:2<=op) (O:op<=14) {D X L M:List Int} {k:Int} (J:RI X) (h:rkE op D X L M k=0):c_r (rkD op D X L M k) (rkV op D X L M k):=by
 have I:op=2∨op=3∨op=4∨op=5∨op=6∨op=7∨op=8∨op=9∨op=10∨op=11∨op=12∨op=13∨op=14:=by omega
 rcases I with rfl|rfl|rfl|rfl|rfl|rfl|rfl|rfl|rfl|rfl|rfl|rfl|rfl
 ·exact h_Z (fun a b=>hold_rng _) h
 ·exact h_Z (fun a b=>hold_rng _) h
 ·exact h_Z (fun a b=>e_S a b) h
 ·exact m_s h
 ·exact m_g h
 ·exact t_t J h
 ·exact t_B h
 ·have E:isP D X:=by
   by_cases E:isP D X
   ·exact E
   ·have H:k_7 D X=0:=h;unfold k_7 at H;rw [if_neg E] at H;cases H
  show c_r [] (if isP D X then [p_9 D X] else []);rw [if_pos E];exact r_W (d:=D) (x:=X) _ (o_q D X)
 ·have E:isP D X:=by
   by_cases E:isP D X
   ·exact E
   ·have H:k_7 D X=0:=h;unfold k_7 at H;rw [if_neg E] at H;cases H
  show c_r [] (if isP D X then [h_N D X] else []);rw [if_pos E];exact r_W (d:=D) (x:=X) _ (m_t D X)
 ·exact r_V J h
 ·exact t_C h
 ·exact t_D J h
 ·exact s_0 J h
end Go.Proofs.YtjlofobnmjompaaGreatDoor.Wd
namespace Go.Proofs.YtjlofobnmjompaaGreatDoor.Wd
open Go.RowKit
section
variable {P : Program} {ops : Array Oper} {Q : Exit -> Act -> World -> Prop}
/-- The first m of n have come up. -/
def i_H (n m:Nat):Array Bool:=Array.replicate m true++Array.replicate (n - m) false
theorem f_E {n m:Nat} (h:m<=n):(i_H n m).size=n:=by simp [i_H];omega
theorem f_F {n m j:Nat} (h:j < m) (b:Bool):(i_H n m).getD j b=true:=by
 simp [i_H,Array.getD_eq_getD_getElem?,Array.getElem?_append,h]
theorem d_e {n m j:Nat} (h:m<=j) (D:j < n) (b:Bool):(i_H n m).getD j b=false:=by
 simp [i_H,Array.getD_eq_getD_getElem?,Array.getElem?_append,Nat.not_lt.2 h,Array.getElem?_replicate];rw [if_pos (by omega)];rfl
theorem j_U {n m j:Nat} (h:m<=n) (D:n<=j) (b:Bool):(i_H n m).getD j b=b:=by
 simp [i_H,Array.getD_eq_getD_getElem?,Array.getElem?_append,Nat.not_lt.2 (Nat.le_trans h D),Array.getElem?_replicate];rw [if_neg (by omega)];rfl
theorem e_A {n m:Nat} (h:m<=n):(i_H n m).toList.count false=n - m:=by
 simp [i_H,List.count_replicate]
theorem q_q {n m:Nat} {l:Array Bool} (M:l.size=n) (R:m<=n) (O:∀ j,j < m->l.getD j false=true) (L:∀ j,m<=j->j < n->l.getD j true=false):l=i_H n m:=by
 refine Array.ext (by rw [M,f_E R]) fun j J D=>?_;have I:j < n:=by omega
 rcases Nat.lt_or_ge j m with c|c
 ·have H:=O j c;have E:=f_F (n:=n) c false;simp only [Array.getD_eq_getD_getElem?,Array.getElem?_eq_getElem J,Array.getElem?_eq_getElem D,Option.getD_some] at H E;rw [H,E]
 ·have H:=L j c I;have E:=d_e c I true;simp only [Array.getD_eq_getD_getElem?,Array.getElem?_eq_getElem J,Array.getElem?_eq_getElem D,Option.getD_some] at H E;rw [H,E]
/-- The region from operation number m on, in any order that it may take. -/
def e_J (P:Program) (ops:Array Oper) (Q:Exit->Act->World->Prop) (m:Nat) (a:Act) (w:World):Prop:=wpAny P .any ops Q (ops.size - m) (i_H ops.size m) a w
theorem d_R {id:Nat} {a:Act} {w:World} (D:P.follows .mixedOrders=true) (h:e_J P ops Q 0 a { w with drawn:=w.drawn+1 }):(Code.region id ops true).wp P Q a w:=by
 refine wp_region_any D ?_;unfold e_J at h;have:i_H ops.size 0=Array.replicate ops.size false:=by simp [i_H]
 rw [this,Nat.sub_zero] at h;exact h
/-- The rest is in the order of the text. -/
def r_X (ops:Array Oper) (m:Nat):Bool:=
 decide (m<=ops.size) && ((List.range ops.size).all fun i=>match ops[i]? with
  | none=>false
  | some o=>(o.after.all fun e=>!Region.binds .any e || decide (e.on < i)) && (List.range i).all fun j=>decide (j < m) || a_4 o j)
theorem f_G {a:Act} {w:World} (m:Nat) (L:r_X ops m=true) (h:wpList P ops Q (ops.toList.drop m) a w):e_J P ops Q m a w:=by
 simp only [r_X,Bool.and_eq_true,decide_eq_true_eq] at L;obtain ⟨O,D⟩:=L
 have hb:∀ i o,ops[i]?=some o->∀ e∈o.after,Region.binds .any e=true->e.on < i:=by
  intro i o E e he H;have:=List.all_eq_true.1 D i (List.mem_range.2 (Array.getElem?_eq_some_iff.1 E).1);simp only [E,Bool.and_eq_true] at this;have J:=Array.all_eq_true_iff_forall_mem.1 this.1 e he;simpa [H] using J
 have R:∀ i o,ops[i]?=some o->∀ j,m<=j->j < i->a_4 o j=true:=by
  intro i o E j M I;have:=List.all_eq_true.1 D i (List.mem_range.2 (Array.getElem?_eq_some_iff.1 E).1);simp only [E,Bool.and_eq_true] at this;have:=List.all_eq_true.1 this.2 j (List.mem_range.2 I);simp only [Bool.or_eq_true,decide_eq_true_eq] at this;rcases this with h|h
  ·omega
  ·exact h
 exact g_J hb R _ m _ a w (f_E O) (Nat.le_refl _) (e_A O) (fun j M=>f_F M false) (fun j J U=>d_e J U true) h
/-- A family of worlds of a class, which holds with each world all that keep what stood in it. -/
structure FamC (C:World->Prop) (F:World->World):Prop where
 cls:∀ d,C (F d)
 on:∀ d W,Below (F d).heap.size (F d) W->∃ d',W=F d'
theorem o_r {C:World->Prop} (D:∀ W W',C W->Below W.heap.size W W'->C W') {W:World} (h:C W):FamC C (e_L W):=
 ⟨fun d=>D _ _ h (a_X W d),fun d W' hb=>d_s ((a_X W d).trans (hb.mono (a_X W d).size))⟩
/-- What the one writing operation leaves. -/
def c_A (P:Program) (φ:Value->World->Prop) (W:World):Result Next->Prop
 | .ok (.value u) W'=>φ u W'
 | .ok .skip W'=>φ undef W'
 | .ok (.enter f args) W'=>W'=W/\Calls P f args W (fun e W''=>∃ v,e = .returned v/\φ v W'')
 | _=>False
def d_f (P:Program) (o:Oper) (a:Act) (W:World) (φ:Value->World->Prop):Prop:=c_A P φ W ((execOp a.eval o).run P W)
/-- The walk of a segment in the order of the text; operation number c is the one that may write (none, if c is not among the told). -/
def b_c (P:Program) (ops:Array Oper) (C:Bool->World->Prop) (T:World->World->Prop) (c:Nat) (ks:List Told) (x:Nat->Value) (G:Act):Nat->List Oper->Act->Prop
 | _,[],a=>a=G
 | i,o :: l,a=>match a_O ks i with
  | none=>∃ v,(∀ b F,FamC (C b) F->c_n ops ks o x F->if Region.wanted o (yielded ops a.tmps)=true then ∀ K:Act->Prop,K (a.put o.dst v)->o.quiet P a (fun W=>∃ d,W=F d) K else v=undef)/\b_c P ops C T c ks x G (i+1) l (a.put o.dst v)
  | some e=>(Region.wanted o (yielded ops a.tmps)=true/\(i≠c->∀ b F,FamC (C b) F->c_n ops ks o x F->∀ d,a_j P o a (F d) e.φ)/\(i=c->∀ W,C false W->c_n ops ks o x (fun _=>W)->d_f P o a W (fun v W'=>e.φ v W'/\C true W'/\T W W')))/\b_c P ops C T c ks x G (i+1) l (a.put (some e.t) (x e.k))
theorem q_r {a:Act} {t:Nat} {v:Value} (h:a.tmps.size<=t):a.put (some t) v=a:=by
 cases a;simp only at h;simp [Act.put,Array.setIfInBounds,Nat.not_lt.2 h]
/-- The slot that an operation writes; one beyond the frame's where it writes none (a store). -/
def dstOf (n:Nat) (o:Oper) (t:Tmp):Prop:=o.dst=some t∨(o.dst=none/\n<=t)
theorem dstOf.put {n:Nat} {o:Oper} {t:Tmp} (h:dstOf n o t) {a:Act} (D:a.tmps.size=n) (v:Value):a.put (some t) v=a.put o.dst v:=by
 rcases h with h|⟨h,E⟩
 ·rw [h]
 ·rw [h,q_r (by omega)];rfl
theorem f_H {C:Bool->World->Prop} {T:World->World->Prop} {c:Nat} {ks:List Told} {x:Nat->Value} {G:Act} {n:Nat}:∀ (l:List Oper) (i:Nat) (a:Act),a.tmps.size=n->(∀ j e,a_O ks (i+j)=some e->∀ o,l[j]?=some o->dstOf n o e.t)->b_c P ops C T c ks x G i l a->
  G.tmps.size=a.tmps.size/\G.defers=a.defers/\∀ t,t∉r_k l->G.tmps[t]?=a.tmps[t]?
 | [],i,a,_,_,h=>by
  obtain rfl:a=G:=h;exact ⟨rfl,rfl,fun _ _=>rfl⟩
 | o :: l,i,a,hn,hk,h=>by
  obtain ⟨v,L⟩:∃ v,b_c P ops C T c ks x G (i+1) l (a.put o.dst v):=by
   rw [b_c] at h
   split at h
   ·obtain ⟨v,_,D⟩:=h;exact ⟨v,D⟩
   ·rename_i e he
    have:=hk 0 e he o rfl;exact ⟨_,by rw [<- this.put hn];exact h.2⟩
  obtain ⟨I,D,O⟩:=f_H l (i+1) _ (by rw [a_J];exact hn) (fun j e he o M=>hk (j+1) e (by rw [show i+(j+1)=i+1+j by omega];exact he) o (by simpa using M)) L;refine ⟨by rw [I,a_J],by rw [D,b_s],fun t H=>?_⟩
  rw [O t (fun J=>H (by
   obtain ⟨x,R,E⟩:=List.mem_filterMap.1 J;exact List.mem_filterMap.2 ⟨x,List.mem_cons_of_mem _ R,E⟩)),a_7 (fun E=>H (List.mem_filterMap.2 ⟨o,List.mem_cons_self,E⟩))]
/-- What an operation yields in the last frame G. -/
def g_l (P:Program) (ops:Array Oper) (C:Bool->World->Prop) (T:World->World->Prop) (c:Nat) (ks:List Told) (x:Nat->Value) (G:Act) (i:Nat) (o:Oper):Prop:=
 match a_O ks i with
  | none=>∀ b F,FamC (C b) F->c_n ops ks o x F->(Region.wanted o (yielded ops G.tmps)=true/\∃ v,(∀ t,o.dst=some t->G.tmps[t]?=some v)/\∀ d,o.quietAt P G (fun W=>∃ d,W=F d) (F d) v)∨(Region.wanted o (yielded ops G.tmps)=false/\∀ t,o.dst=some t->G.tmps[t]?=some undef)
  | some e=>Region.wanted o (yielded ops G.tmps)=true/\(i≠c->∀ b F,FamC (C b) F->c_n ops ks o x F->∀ d,a_j P o G (F d) e.φ)/\(i=c->∀ W,C false W->c_n ops ks o x (fun _=>W)->d_f P o G W (fun v W'=>e.φ v W'/\C true W'/\T W W'))
theorem m_u {C:Bool->World->Prop} {T:World->World->Prop} {c:Nat} {ks:List Told} {x:Nat->Value} {G:Act} (n:Nat):∀ (l:List Oper) (i:Nat) (a:Act),a.tmps.size=n->(∀ o,o∈l->∀ cs b,o.op≠.select cs b)->c_7 ops n l=true->
  (∀ j e,a_O ks (i+j)=some e->∀ o,l[j]?=some o->dstOf n o e.t)->b_c P ops C T c ks x G i l a->∀ j o,l[j]?=some o->g_l P ops C T c ks x G (i+j) o
 | [],_,_,_,_,_,_,_,j,o,R=>by simp at R
 | o :: l,i,a,hn,hs,hl,hk,h,j,p,H=>by
  have ab:=f_H (o :: l) i a hn hk h;rw [c_7,Bool.and_eq_true,Bool.and_eq_true] at hl;obtain ⟨⟨E,M⟩,hl⟩:=hl
  have J:∀ t,t∈o.looksAt ops->G.tmps[t]?=a.tmps[t]?:=fun t L=>ab.2.2 t (fun hm=>by
   have:=List.all_eq_true.1 M t hm;simp at this;exact this L)
  have he:=c_b (ops:=ops) (hs o List.mem_cons_self) J;have hw:=b_y J;have O:∀ j e,a_O ks (i+1+j)=some e->∀ o,l[j]?=some o->dstOf n o e.t:=fun j e he o R=>hk (j+1) e (by rw [show i+(j+1)=i+1+j by omega];exact he) o (by simpa using R)
  have I:∀ v,b_c P ops C T c ks x G (i+1) l (a.put o.dst v)->∀ j p,(o :: l)[j+1]?=some p->g_l P ops C T c ks x G (i+(j+1)) p:=fun v V j p H=>by
   have:=m_u n l (i+1) (a.put o.dst v) (by rw [a_J];exact hn) (fun o R=>hs o (List.mem_cons_of_mem _ R)) hl O V j p (by simpa using H);rw [show i+(j+1)=i+1+j by omega];exact this
  have D:∀ v,b_c P ops C T c ks x G (i+1) l (a.put o.dst v)->∀ t,o.dst=some t->G.tmps[t]?=some v:=by
   intro v V t L;rw [L] at E V;simp at E;rw [(f_H l (i+1) _ (by rw [a_J];exact hn) O V).2.2 t E.2,b_F (by rw [hn];exact E.1)]
  rw [b_c] at h;cases U:a_O ks i with
  | none=>
   rw [U] at h;obtain ⟨v,h1,h2⟩:=h;cases j with
   | succ j=>exact I v h2 j p H
   | zero=>
    simp only [List.getElem?_cons_zero,Option.some.injEq] at H;subst H;unfold g_l;rw [Nat.add_zero,U];intro b F hF hf;have h3:=h1 b F hF hf;by_cases c:Region.wanted o (yielded ops a.tmps)=true
    ·rw [if_pos c] at h3;obtain ⟨u,hu,hK⟩:=h3 (fun a'=>a'=a.put o.dst v) rfl
     left
     refine ⟨hw.trans c,u,?_,fun d=>?_⟩
     ·intro t L;rw [D v h2 t L];rw [L] at hK E;simp at E;have e1:(a.put (some t) u).tmps[t]?=(a.put (some t) v).tmps[t]?:=congrArg (fun a=>a.tmps[t]?) hK;rw [b_F (by rw [hn];exact E.1),b_F (by rw [hn];exact E.1)] at e1;exact e1.symm
     ·have:=hu _ ⟨d,rfl⟩;unfold Oper.quietAt at *;rw [he];exact this
    ·rw [if_neg c] at h3
     right
     refine ⟨hw.trans (by simpa using c),fun t L=>?_⟩;rw [D v h2 t L,h3]
  | some e=>
   rw [U] at h;have ac:=hk 0 e U o rfl;cases j with
   | succ j=>exact I (x e.k) (by rw [<- ac.put hn];exact h.2) j p H
   | zero=>
    simp only [List.getElem?_cons_zero,Option.some.injEq] at H;subst H;unfold g_l;rw [Nat.add_zero,U];obtain ⟨g1,g2,g3⟩:=h.1;refine ⟨hw.trans g1,fun aa b F hF hf d=>?_,fun ad W hW hf=>?_⟩
    ·have:=g2 aa b F hF hf d;unfold a_j at *;rw [he];exact this
    ·have:=g3 ad W hW hf;unfold d_f at *;rw [he];exact this
/-- The shape of the segment from k to m: what stands from m on waits for all of it. -/
def s_B (ops:Array Oper) (k m:Nat):Bool:=
 decide (m<=ops.size) && Region.noSelect ops &&
 ((List.range ops.size).all fun i=>match ops[i]? with
  | none=>false
  | some o=>(o.after.all fun e=>!Region.binds .any e || decide (e.on < i)) && (decide (i<=m) || (List.range i).any fun j=>decide (m<=j) && a_4 o j)) &&
 (decide (ops.size<=m) || (List.range m).all fun j=>decide (j < k) || (List.range (m+1)).any fun n=>decide (j < n) && match ops[n]? with
  | none=>false
  | some o=>a_4 o j) &&
 ((List.range m).all fun i=>decide (i < k) || match ops[i]? with
  | none=>false
  | some o=>(List.range m).all fun j=>decide (j < k) || match (ops[j]?).bind (·.dst) with
   | none=>true
   | some t=>(!(o.looksAt ops).contains t || a_4 o j) && (i==j || o.dst != some t))
/-- Each told operation is in the segment and writes the slot that it names; no two of them write one slot. -/
def o_s (ops:Array Oper) (ks:List Told) (k m n:Nat):Bool:=
 (ks.all fun e=>decide (k<=e.k) && decide (e.k < m) && (decide (e.t < n) && (((ops[e.k]?).bind (·.dst))==some e.t) || decide (n<=e.t) && (((ops[e.k]?).bind (·.dst))==none) && ops.toList.all fun o=>!(o.looksAt ops).contains e.t)) && decide (ks.map (·.t)).Nodup && decide (ks.map (·.k)).Nodup
structure InvS (ops:Array Oper) (C:Bool->World->Prop) (c:Nat) (ks:List Told) (k m:Nat) (G:Act) (listed:Array Bool) (s:Act) (W:World) (x:Nat->Value):Prop where
 size:listed.size=ops.size
 done:∀ j,j < k->listed.getD j false=true
 head:∀ j,m<=j->j < ops.size->listed.getD j true=false
 fsize:s.tmps.size=G.tmps.size
 fdef:s.defers=G.defers
 slot:∀ t,(∀ j o,k<=j->j < m->ops[j]?=some o->o.dst=some t->listed.getD j false=true)->s.tmps[t]?=G.tmps[t]?
 cls:C (listed.getD c false) W
 told:∀ e,e∈ks->listed.getD e.k false=true->e.φ (x e.k) W
 closed:∀ j o,ops[j]?=some o->listed.getD j false=true->∀ e∈o.after,Region.binds .any e=true->listed.getD e.on false=true
theorem InvS.all {C:Bool->World->Prop} {c:Nat} {W:World} {ks:List Told} {k m:Nat} {G s:Act} {D:Array Bool} {x:Nat->Value} (H:InvS ops C c ks k m G D s W x) (h:∀ j,j < m->D.getD j false=true):s=G:=by
 have I:s.tmps=G.tmps:=Array.ext_getElem? fun t=>H.slot t fun j _ _ J _ _=>h j J;have E:=H.fdef;cases s;cases G;simp only at I E;rw [I,E]
theorem q_s {C:Bool->World->Prop} {T:World->World->Prop} {c:Nat} {ks:List Told} {k m n:Nat} {G:(Nat->Value)->Act} {G0:Act} (hB:s_B ops k m=true) (hK:o_s ops ks k m n=true) (bd:k<=m)
  (hC:∀ b W W',C b W->Below W.heap.size W W'->C b W')
  (a2:(∃ e,e∈ks/\e.k=c)∨m<=c)
  (hφ:∀ e,e∈ks->∀ v W W',e.φ v W->Below W.heap.size W W'->e.φ v W')
  (hT:∀ e,e∈ks->e.k≠c->∀ v W W',e.φ v W->C false W->T W W'->e.φ v W')
  (hG:∀ x,G x=b_k ks x G0) (hn:G0.tmps.size=n)
  (aR:∀ x i o,k<=i->i < m->ops[i]?=some o->g_l P ops C T c ks x (G x) i o)
  (ht:∀ W x,C (decide (c < m)) W->(∀ e,e∈ks->e.φ (x e.k) W)->e_J P ops Q m (G x) W):
  ∀ (fuel:Nat) (D:Array Bool) (s:Act) (W:World) (x:Nat->Value),D.toList.count false=fuel->InvS ops C c ks k m (G x) D s W x->wpAny P .any ops Q fuel D s W:=by
 simp only [s_B,Bool.and_eq_true,decide_eq_true_eq] at hB;obtain ⟨⟨⟨⟨hm,aO⟩,ap⟩,av⟩,hX⟩:=hB;simp only [o_s,Bool.and_eq_true,decide_eq_true_eq] at hK;obtain ⟨⟨hK,a6⟩,a5⟩:=hK
 have aK:∀ e,e∈ks->(k<=e.k/\e.k < m)/\((e.t < n/\(ops[e.k]?).bind (·.dst)=some e.t)∨((n<=e.t/\(ops[e.k]?).bind (·.dst)=none)/\∀ o,o∈ops->(o.looksAt ops).contains e.t=false)):=by
  intro e he;have:=List.all_eq_true.1 hK e he;simp only [Bool.and_eq_true,Bool.or_eq_true,decide_eq_true_eq,beq_iff_eq] at this;refine ⟨this.1,this.2.imp id fun h=>⟨h.1,fun o M=>?_⟩⟩;have:=List.all_eq_true.1 h.2 o (Array.mem_toList_iff.2 M);simpa using this
 have hb:∀ i o,ops[i]?=some o->∀ e∈o.after,Region.binds .any e=true->e.on < i:=by
  intro i o M e he ba;have:=List.all_eq_true.1 ap i (List.mem_range.2 (Array.getElem?_eq_some_iff.1 M).1);simp only [M,Bool.and_eq_true] at this;have O:=Array.all_eq_true_iff_forall_mem.1 this.1 e he;simpa [ba] using O
 have bb:∀ i o,ops[i]?=some o->m < i->∃ j,m<=j/\j < i/\a_4 o j=true:=by
  intro i o M hj;have:=List.all_eq_true.1 ap i (List.mem_range.2 (Array.getElem?_eq_some_iff.1 M).1);simp only [M,Bool.and_eq_true] at this;have:=this.2;simp only [Bool.or_eq_true,decide_eq_true_eq] at this;rcases this with h|h
  ·omega
  ·obtain ⟨j,a1,aL⟩:=List.any_eq_true.1 h;simp only [Bool.and_eq_true,decide_eq_true_eq] at aL;exact ⟨j,aL.1,List.mem_range.1 a1,aL.2⟩
 have hS:m < ops.size->∀ j,k<=j->j < m->∃ n o,j < n/\n<=m/\ops[n]?=some o/\a_4 o j=true:=by
  intro ao j ac hj;rw [Bool.or_eq_true] at av;rcases av with h|h
  ·simp at h;omega
  ·have h0:=List.all_eq_true.1 h j (List.mem_range.2 hj);rw [Bool.or_eq_true] at h0;rcases h0 with h0|h0
   ·simp at h0;omega
   ·obtain ⟨n,hk,O⟩:=List.any_eq_true.1 h0;simp only [Bool.and_eq_true,decide_eq_true_eq] at O;have aH:n < ops.size:=by have:=List.mem_range.1 hk;omega
    have M:ops[n]?=some ops[n]:=Array.getElem?_eq_getElem aH;rw [M] at O;exact ⟨n,_,O.1,by have:=List.mem_range.1 hk;omega,M,O.2⟩
 have aP:∀ i o,k<=i->i < m->ops[i]?=some o->∀ j t,k<=j->j < m->(ops[j]?).bind (·.dst)=some t->(t∈o.looksAt ops->a_4 o j=true)/\(i≠j->o.dst≠some t):=by
  intro i o aA hi M j t ac hj hd;have h0:=List.all_eq_true.1 hX i (List.mem_range.2 hi);rw [Bool.or_eq_true] at h0;have h0:_:=h0.resolve_left (by simp;omega);simp only [M] at h0;have O:=List.all_eq_true.1 h0 j (List.mem_range.2 hj);rw [Bool.or_eq_true] at O;have this:=O.resolve_left (by simp;omega);simp only [hd,Bool.and_eq_true,Bool.or_eq_true,bne_iff_ne,beq_iff_eq,Bool.not_eq_true',List.contains_eq_mem,decide_eq_false_iff_not] at this;refine ⟨fun hl=>?_,fun an=>?_⟩
  ·rcases this.1 with h|h
   ·exact absurd hl h
   ·exact h
  ·rcases this.2 with h|h
   ·exact absurd h an
   ·exact h
 have U:∀ x,(G x).tmps.size=n:=fun x=>by rw [hG,e_r];exact hn
 have a9:∀ x e,e∈ks->e.t < n->(G x).tmps[e.t]?=some (x e.k):=fun x e he ao=>by
  rw [hG];exact g_K x ks G0 a6 e he (by rw [hn];exact ao)
 have ai:∀ (D:Array Bool) (s:Act) (W:World) (x:Nat->Value),InvS ops C c ks k m (G x) D s W x->(∀ j,j < m->D.getD j false=true)->wpAny P .any ops Q (D.toList.count false) D s W:=by
  intro D s W x E H;have hs:=E.all H;have hl:=q_q E.size hm H E.head
  have aI:D.getD c false=decide (c < m):=by
   rw [hl];rcases Nat.lt_or_ge c m with h|h
   ·rw [f_F h];simp [h]
   ·have:decide (c < m)=false:=by simp;omega
    rw [this];rcases Nat.lt_or_ge c ops.size with h'|h'
    ·exact d_e h h' _
    ·exact j_U hm h' _
  have h:=ht W x (by rw [<- aI];exact E.cls) (fun e he=>E.told e he (H _ (aK e he).1.2));unfold e_J at h;rw [hl,e_A hm,hs];exact h
 intro fuel
 induction fuel with
 | zero=>
  intro D s W x hc E;have H:∀ j,j < m->D.getD j false=true:=fun j hj=>d_3 (by rw [E.size];omega) (b_t hc j);have:=ai D s W x E H;rw [hc] at this;exact this
 | succ fuel ih=>
  intro D s W x hc E
  refine ⟨fun hr=>by
   obtain ⟨i,hi⟩:=d_t hc;exact absurd hr (c_J E.size hb i hi),fun i hi=>?_⟩
  obtain ⟨aj,o,M,H⟩:=mem_ready.1 hi;have aW:i < ops.size:=(Array.getElem?_eq_some_iff.1 M).1
  have aA:k<=i:=by
   rcases Nat.lt_or_ge i k with h|h
   ·have O:=E.done i h;have h2:=(b_n aj).2;rw [O] at h2;cases h2
   ·exact h
  rcases Nat.lt_or_ge i m with az|az
  ·have aB:∀ t,t∈o.looksAt ops->s.tmps[t]?=(G x).tmps[t]?:=fun t ad=>
    E.slot t fun j oj ac hj ab hd=>a_q ((aP i o aA az M j t ac hj (by rw [ab];exact hd)).1 ad) H
   have he:=c_b (ops:=ops) (Region.noSelect_spec aO i o · · M) aB;have aF:=b_y aB
   have af:∀ e,e∈ks->(o.looksAt ops).contains e.t=true->D.getD e.k false=true:=fun e L ad=>by
    obtain ⟨O,⟨_,h3⟩|h3⟩:=aK e L
    ·exact a_q ((aP i o aA az M e.k e.t O.1 O.2 h3).1 (by simpa using ad)) H
    ·have:=h3.2 o (Array.mem_of_getElem? M);rw [ad] at this;cases this
   have aw:c_n ops ks o x (e_L W):=fun e L ad d=>hφ e L _ _ _ (E.told e L (af e L ad)) (a_X W d);have ah:=aR x i o aA az M;unfold g_l at ah;have aX:=o_r (hC (D.getD c false)) E.cls;obtain ⟨d0,aU⟩:=d_s (Below.refl W.heap.size W)
   have ar:∀ e,e∈ks->e.k≠i->(D.setIfInBounds i true).getD e.k false=true->D.getD e.k false=true:=fun e _ an h=>by
    rw [getD_set_ne false (Ne.symm an)] at h;exact h
   have aq:∀ j,j < k->(D.setIfInBounds i true).getD j false=true:=fun j hj=>by rw [getD_set_ne false (by omega)];exact E.done j hj
   unfold wpOp;simp only [M];cases au:a_O ks i with
   | none=>
    rw [au] at ah;have ah:=ah _ _ aX aw;have aT:=d_P au
    have a3:i≠c:=by
     rcases a2 with ⟨e,a4,a7⟩|h
     ·rw [<- a7];exact fun h=>aT e a4 h.symm
     ·omega
    have aa:∀ (v:Value) (W':World),(∀ t,o.dst=some t->(G x).tmps[t]?=some v)->Below W.heap.size W W'->wpAny P .any ops Q fuel (D.setIfInBounds i true) (s.put o.dst v) W':=by
     intro v W' hv aS;refine ih _ _ W' x (a_2 aj hc) ⟨by simpa using E.size,aq,fun j hj aG=>by rw [getD_set_ne true (by omega)];exact E.head j hj aG,by rw [a_J];exact E.fsize,by rw [b_s];exact E.fdef,fun t ag=>?_,by rw [getD_set_ne false a3];exact hC _ _ _ E.cls aS,fun e L hl=>hφ e L _ _ _ (E.told e L (ar e L (aT e L) hl)) aS,b_A M H E.closed⟩;by_cases hd:o.dst=some t
     ·rw [hv t hd,hd];exact b_F (by rw [E.fsize];exact (Array.getElem?_eq_some_iff.1 (hv t hd)).1)
     ·rw [a_7 hd];refine E.slot t fun j oj ac hj ab am=>?_;have:=ag j oj ac hj ab am;by_cases c:i=j
      ·subst c;rw [M] at ab;cases ab;exact absurd am hd
      ·rw [getD_set_ne false c] at this;exact this
    rcases ah with ⟨hw,v,hv,hq⟩|⟨hw,hu⟩
    ·rw [if_pos (aF.trans hw)]
     left
     have hq:=hq d0;rw [<- aU] at hq;unfold Oper.wp;unfold Oper.quietAt at hq;rw [he];generalize (execOp (G x).eval o).run P W=r at hq;cases r with
     | halt x w'=>exact hq.elim
     | ok n w'=>
      cases n <;> simp only [Oper.quietUpon] at hq <;> simp only [Oper.upon]
      case value u=>
       obtain ⟨e1,e2⟩:=hq;rw [e1,e2];exact aa v W hv (Below.refl _ _)
      case skip=>
       obtain ⟨e1,e2⟩:=hq;rw [e1,<- e2];exact aa v W hv (Below.refl _ _)
      case enter f args=>
       obtain ⟨e1,hc⟩:=hq;rw [e1];exact hc.mono fun e ay ⟨he,d,aN⟩=>by subst he;rw [aN];exact aa v _ hv (a_X W d)
    ·rw [if_neg (by rw [aF,hw];exact Bool.false_ne_true)];exact aa undef W hu (Below.refl _ _)
   | some e=>
    rw [au] at ah;obtain ⟨L,a0⟩:=c_c au;subst a0
    have ae:(e.t < n/\o.dst=some e.t)∨(n<=e.t/\o.dst=none):=by
     have:=(aK e L).2;rw [M] at this;exact this.imp id fun h=>h.1
    have aC:∀ I,I∈ks->I.k=e.k->I=e:=fun I R hk=>by
     have O:=d_u ks a5 I R;rw [hk,au] at O;exact (Option.some.inj O).symm
    have aa:∀ (v:Value) (W':World),e.φ v W'->C ((D.setIfInBounds e.k true).getD c false) W'->(∀ I,I∈ks->I.k≠e.k->∀ u,D.getD I.k false=true->I.φ u W->I.φ u W')->wpAny P .any ops Q fuel (D.setIfInBounds e.k true) (s.put o.dst v) W':=by
     intro v W' hv aY aE;refine ih _ _ W' (upd x e.k v) (a_2 aj hc) ⟨by simpa using E.size,aq,fun j hj aG=>by rw [getD_set_ne true (by omega)];exact E.head j hj aG,by rw [a_J,E.fsize,U,U],by rw [b_s,E.fdef,hG,hG,b_N,b_N],fun t ag=>?_,aY,fun I V hl=>?_,b_A M H E.closed⟩
     ·by_cases hd:o.dst=some t
      ·rw [hd];rcases ae with ⟨ao,ae⟩|⟨_,ae⟩
       case inr=>rw [ae] at hd;cases hd
       obtain rfl:e.t=t:=by rw [ae] at hd;exact Option.some.inj hd
       rw [a9 _ e L ao,b_F (by rw [E.fsize,U];exact ao)];show some v=some (if e.k=e.k then v else x e.k);rw [if_pos rfl]
      ·by_cases aJ:n<=t
       ·rw [a_7 hd,Array.getElem?_eq_none (by rw [E.fsize,U];exact aJ),Array.getElem?_eq_none (by rw [U];exact aJ)]
       rw [a_7 hd,hG,d_5 x e.k v t ks G0 G0 rfl rfl (fun I R aH hh=>by
        have aQ:e.t=t:=by rw [<- aC I R aH];exact hh
        rcases ae with ⟨_,ae⟩|⟨aZ,_⟩
        ·exact hd (by rw [ae,aQ])
        ·exact aJ (aQ ▸ aZ)),<- hG]
       refine E.slot t fun j oj ac hj ab am=>?_;have:=ag j oj ac hj ab am;by_cases c:e.k=j
       ·subst c;rw [M] at ab;cases ab;exact absurd am hd
       ·rw [getD_set_ne false c] at this;exact this
     ·by_cases c:I.k=e.k
      ·obtain rfl:=aC I V c;show I.φ (if I.k=I.k then v else x I.k) W';rw [if_pos rfl];exact hv
      ·show I.φ (if I.k=e.k then v else x I.k) W';rw [if_neg c];have ax:=ar I V c hl;exact aE I V c _ ax (E.told I V ax)
    obtain ⟨hw,hy,hz⟩:=ah;rw [if_pos (aF.trans hw)]
    left
    by_cases ak:e.k=c
    ·have aI:D.getD c false=false:=by rw [<- ak];exact (b_n aj).2
     have aD:=E.cls;rw [aI] at aD;have hy:=hz ak W aD (fun I V ad _=>E.told I V (af I V ad))
     have a8:(D.setIfInBounds e.k true).getD c false=true:=by
      rw [ak] at aj ⊢;have:=(b_n aj).1;simp [this]
     have J:∀ (v:Value) (W':World),(e.φ v W'/\C true W'/\T W W')->wpAny P .any ops Q fuel (D.setIfInBounds e.k true) (s.put o.dst v) W':=fun v W' ⟨O,h2,h3⟩=>
      aa v W' O (by rw [a8];exact h2) (fun I R an u _ hu=>hT I R (by rw [<- ak];exact an) u W W' hu aD h3)
     unfold Oper.wp;unfold d_f at hy;rw [he];generalize (execOp (G x).eval o).run P W=r at hy;cases r with
     | halt x w'=>exact hy.elim
     | ok n w'=>
      cases n <;> simp only [c_A] at hy <;> simp only [Oper.upon]
      case value u=>exact J u w' hy
      case skip=>exact J undef w' hy
      case enter f args=>
       obtain ⟨e1,hc⟩:=hy;rw [e1];exact hc.mono fun I ay ⟨v,R,O⟩=>by subst R;exact J v ay O
    ·have hy:=hy ak _ _ aX aw d0;rw [<- aU] at hy
     have J:∀ (v:Value) (W':World),e.φ v W'->Below W.heap.size W W'->wpAny P .any ops Q fuel (D.setIfInBounds e.k true) (s.put o.dst v) W':=fun v W' O h2=>
      aa v W' O (by rw [getD_set_ne false ak];exact hC _ _ _ E.cls h2) (fun I R _ u _ hu=>hφ I R u W W' hu h2)
     unfold Oper.wp;unfold a_j at hy;rw [he];generalize (execOp (G x).eval o).run P W=r at hy;cases r with
     | halt x w'=>exact hy.elim
     | ok n w'=>
      cases n <;> simp only [a_f] at hy <;> simp only [Oper.upon]
      case value u=>exact J u w' hy.1 hy.2
      case skip=>exact J undef w' hy.1 hy.2
      case enter f args=>
       obtain ⟨e1,hc⟩:=hy;rw [e1];exact hc.mono fun I ay ⟨v,R,O,h2⟩=>by subst R;exact J v ay O h2
  ·obtain rfl:i=m:=by
    rcases Nat.lt_or_ge m i with c|c
    ·obtain ⟨j,h0,O,h2⟩:=bb i o M c;have h3:=a_q h2 H;have h4:=(b_n (E.head j h0 (by omega))).2;rw [h3] at h4;cases h4
    ·omega
   have hl:∀ d j,i - j=d->k<=j->j < i->D.getD j false=true:=by
    intro d
    induction d using Nat.strongRecOn with
    | _ d ihd=>
     intro j hd ac hj;obtain ⟨n,on,bc,hn,aM,aV⟩:=hS aW j ac hj;rcases Nat.lt_or_ge n i with c|c
     ·have:=ihd (i - n) (by omega) n rfl (by omega) c;exact a_q aV (E.closed n on aM this)
     ·obtain rfl:n=i:=by omega
      rw [M] at aM;cases aM;exact a_q aV H
   have ax:∀ j,j < i->D.getD j false=true:=fun j hj=>by
    rcases Nat.lt_or_ge j k with c|c
    ·exact E.done j c
    ·exact hl (i - j) j rfl c hj
   have h:=ai D s W x E ax;rw [hc] at h;exact h.2 i hi
/-- THE LAW of one segment, from k to m. -/
theorem seg {a:Act} {w:World} {l:List Oper} (C:Bool->World->Prop) (T:World->World->Prop) (c:Nat) (ks:List Told) (k m n:Nat) (hn:a.tmps.size=n) (L:l=(ops.toList.drop k).take (m - k)) (hB:(decide (k<=m) && s_B ops k m && c_7 ops n l)=true) (hK:o_s ops ks k m n=true)
  (hC:∀ b W W',C b W->Below W.heap.size W W'->C b W') (hw:C false w)
  (ae:(∃ e,e∈ks/\e.k=c)∨m<=c)
  (hφ:∀ e,e∈ks->∀ v W W',e.φ v W->Below W.heap.size W W'->e.φ v W')
  (hT:∀ e,e∈ks->e.k≠c->∀ v W W',e.φ v W->C false W->T W W'->e.φ v W')
  (h:∃ G:(Nat->Value)->Act,(∀ x,b_c P ops C T c ks x (G x) k l a)/\(∀ x,G x=b_k ks x (G fun _=>undef))/\
   ∀ W x,C (decide (c < m)) W->(∀ e,e∈ks->e.φ (x e.k) W)->e_J P ops Q m (G x) W):e_J P ops Q k a w:=by
 obtain ⟨G,h1,h2,h3⟩:=h;simp only [Bool.and_eq_true,decide_eq_true_eq] at hB;obtain ⟨⟨E,ab⟩,af⟩:=hB;have J:=ab;simp only [s_B,Bool.and_eq_true,decide_eq_true_eq] at J;have R:=J.1.1.1.1;have U:=hK;simp only [o_s,Bool.and_eq_true,decide_eq_true_eq] at U
 have ag:∀ e,e∈ks->k<=e.k/\e.k < m:=fun e M=>by
  have:=List.all_eq_true.1 U.1.1 e M;simp only [Bool.and_eq_true,Bool.or_eq_true,decide_eq_true_eq,beq_iff_eq] at this;exact this.1
 have O:∀ j,k+j < m->l[j]?=ops[k+j]?:=by
  intro j H;rw [L,List.getElem?_take_of_lt (by omega),List.getElem?_drop];simp
 have hk:∀ j e,a_O ks (k+j)=some e->∀ o,l[j]?=some o->dstOf n o e.t:=by
  intro j e he o D;obtain ⟨M,ad⟩:=c_c he;have:=List.all_eq_true.1 U.1.1 e M;simp only [Bool.and_eq_true,Bool.or_eq_true,decide_eq_true_eq,beq_iff_eq] at this;rw [O j (by rw [<- ad];exact this.1.2)] at D;have h4:=this.2;rw [ad,D] at h4;exact h4.imp (fun h=>h.2) fun h=>⟨h.1.2,h.1.1⟩
 have ac:∀ o,o∈l->∀ cs b,o.op≠.select cs b:=by
  intro o D cs b;rw [L] at D;obtain ⟨j,H,e⟩:=List.getElem_of_mem (List.mem_of_mem_drop (List.mem_of_mem_take D));exact Region.noSelect_spec J.1.1.1.2 j o cs b (by rw [<- e];simp at H ⊢)
 have ao:∀ x,(G x).tmps.size=n:=fun x=>by rw [(f_H l k a hn hk (h1 x)).1,hn]
 have V:=f_H l k a hn hk (h1 fun _=>undef);unfold e_J;refine q_s (C:=C) (T:=T) (c:=c) (ks:=ks) (k:=k) (m:=m) (n:=n) (G:=G) (G0:=G fun _=>undef) ab hK E hC ae hφ hT h2 (ao _) (fun x i o ap hi D=>?_) h3 _ _ _ _ (fun _=>undef) ?_ ⟨f_E (Nat.le_trans E R),fun j H=>f_F H _,fun j H aj=>d_e (Nat.le_trans E H) aj _,V.1.symm,V.2.1.symm,fun t hc=>?_,?_,fun e he L=>?_,fun j o D L e he ak=>?_⟩
 ·have:=m_u n l k a hn ac af hk (h1 x) (i - k) o (by rw [O (i - k) (by omega),show k+(i - k)=i by omega];exact D);rw [show k+(i - k)=i by omega] at this;exact this
 ·exact e_A (Nat.le_trans E R)
 ·refine (V.2.2 t fun ai=>?_).symm;obtain ⟨o,D,hd⟩:=List.mem_filterMap.1 ai;obtain ⟨j,H,e⟩:=List.getElem_of_mem D;have ar:j < m - k:=by rw [L] at H;simp at H;omega
  have aa:ops[k+j]?=some o:=by rw [<- O j (by omega),List.getElem?_eq_getElem H,e]
  have I:k+j < ops.size:=(Array.getElem?_eq_some_iff.1 aa).1;have:=hc (k+j) o (by omega) (by omega) aa hd;rw [d_e (by omega) I] at this;cases this
 ·have:(i_H ops.size k).getD c false=false:=by
   have an:k<=c:=by
    rcases ae with ⟨e,am,ah⟩|h
    ·rw [<- ah];exact (ag e am).1
    ·omega
   rcases Nat.lt_or_ge c ops.size with h|h
   ·exact d_e an h _
   ·exact j_U (Nat.le_trans E R) h _
  rw [this];exact hw
 ·obtain ⟨h4,h5⟩:=ag e he;rw [d_e h4 (by omega)] at L;cases L
 ·have I:j < ops.size:=(Array.getElem?_eq_some_iff.1 D).1
  have aq:j < k:=by
   rcases Nat.lt_or_ge j k with h|h
   ·exact h
   ·rw [d_e h I] at L;cases L
  have h6:=List.all_eq_true.1 J.1.1.2 j (List.mem_range.2 I);simp only [D,Bool.and_eq_true] at h6;have h7:=Array.all_eq_true_iff_forall_mem.1 h6.1 e he;have h8:e.on < j:=by simpa [ak] using h7
  exact f_F (by omega) _
theorem b_P {C:Bool->World->Prop} {T:World->World->Prop} {c:Nat} {ks:List Told} {x:Nat->Value} {G a:Act} {i:Nat} {o:Oper} {l:List Oper} (D:a_O ks i=none) (I:Region.wanted o (yielded ops a.tmps)=true)
  (h:∃ v,(∀ b F,FamC (C b) F->c_n ops ks o x F->∀ K:Act->Prop,K (a.put o.dst v)->o.quiet P a (fun W=>∃ d,W=F d) K)/\b_c P ops C T c ks x G (i+1) l (a.put o.dst v)):b_c P ops C T c ks x G i (o :: l) a:=by
 rw [b_c,D];obtain ⟨v,H,E⟩:=h;exact ⟨v,fun b F hF hf=>by rw [if_pos I];exact H b F hF hf,E⟩
theorem i_I {C:Bool->World->Prop} {T:World->World->Prop} {c:Nat} {ks:List Told} {x:Nat->Value} {G a:Act} {i:Nat} {o:Oper} {l:List Oper} {e:Told} (D:a_O ks i=some e) (I:i≠c) (J:Region.wanted o (yielded ops a.tmps)=true)
  (H:∀ b F,FamC (C b) F->c_n ops ks o x F->∀ d,a_j P o a (F d) e.φ) (E:b_c P ops C T c ks x G (i+1) l (a.put (some e.t) (x e.k))):b_c P ops C T c ks x G i (o :: l) a:=by
 rw [b_c,D];exact ⟨⟨J,fun _=>H,fun h=>absurd h I⟩,E⟩
theorem i_J {C:Bool->World->Prop} {T:World->World->Prop} {c:Nat} {ks:List Told} {x:Nat->Value} {G a:Act} {i:Nat} {o:Oper} {l:List Oper} {e:Told} (D:a_O ks i=some e) (I:i=c) (J:Region.wanted o (yielded ops a.tmps)=true)
  (H:∀ W,C false W->c_n ops ks o x (fun _=>W)->d_f P o a W (fun v W'=>e.φ v W'/\C true W'/\T W W')) (E:b_c P ops C T c ks x G (i+1) l (a.put (some e.t) (x e.k))):b_c P ops C T c ks x G i (o :: l) a:=by
 rw [b_c,D];exact ⟨⟨J,fun h=>absurd I h,fun _=>H⟩,E⟩
theorem m_v {C:Bool->World->Prop} {T:World->World->Prop} {c:Nat} {ks:List Told} {x:Nat->Value} {G a:Act} {i:Nat} (h:a=G):b_c P ops C T c ks x G i [] a:=h
end
end Go.Proofs.YtjlofobnmjompaaGreatDoor.Wd
namespace Go.Proofs.YtjlofobnmjompaaGreatDoor.Wd
open Go.RowKit Fx
def f_I (ns:List Nd) (d x:List Int):Int:=if 512<=ns.length then 2 else if isP d x then 0 else 1
def f_J (ns:List Nd) (d x:List Int):Int:=if ns.length < 512/\isP d x then (ns.length:Int) else 0
def c_Q (ns:List Nd) (d x:List Int):List Nd:=if ns.length < 512/\isP d x then ns++[⟨1,-1,-1,0,d,x⟩] else ns
theorem OwnK.form_ {e:TypeId} {W:World} {B:Nat} {v:Value} {l:List Int} (h:OwnK .i64 e W B v l):∃ p n c,v = .slice p n c:=by
 obtain ⟨p,n,c,e,_⟩:=h.nums.lst;exact ⟨p,n,c,e⟩
theorem k_J {e:TypeId} {W:World} {B n:Nat} {v:Value} {D:List Value} (h:W.ownsRow B e 6 v n D):∀ j,v.ownBlock=some j->B<=j:=fun j E=>(World.ownsRow.lt h j E).1
theorem m_w {w D:World} {a b c d e f:Value} (h:((w.alloc (.cells #[a,b] 64)).alloc (.cells #[c,d] 64)).alloc (.cells #[e,f] 64)=D):Hid (Below w.heap.size w D)/\Hid (Cel D w.heap.size a b)/\Hid (Cel D (w.heap.size+1) c d)/\Hid (Cel D (w.heap.size+2) e f):=⟨b_W (w:=w) h (by go_grown),a_F h (by simp [go_sem]),a_F h (by simp [go_sem]),a_F h (by simp [go_sem])⟩
def ndN (ns:List Nd) (i:Int):Nd:=ns.getD i.toNat ⟨0,0,0,0,[],[]⟩
abbrev okD (ns:List Nd) (op a b:Int):Prop:=(2<=op/\op<=14)/\(0<=a/\a < (ns.length:Int))/\(d_A op->0<=b/\b < (ns.length:Int))
def dB (op b:Int):Int:=if d_A op then b else -1
def dK (op k:Int):Int:=if byP op then k else 0
def dD (ns:List Nd) (op b:Int):List Int:=if d_A op then (ndN ns b).D else []
def dX (ns:List Nd) (op b:Int):List Int:=if d_A op then (ndN ns b).X else []
def dE (ns:List Nd) (op a b k:Int):Int:=rkE op (ndN ns a).D (ndN ns a).X (dD ns op b) (dX ns op b) (dK op k)
def dN (ns:List Nd) (op a b k:Int):Nd:=⟨op,a,dB op b,dK op k,rkD op (ndN ns a).D (ndN ns a).X (dD ns op b) (dX ns op b) (dK op k),rkV op (ndN ns a).D (ndN ns a).X (dD ns op b) (dX ns op b) (dK op k)⟩
def doE (ns:List Nd) (op a b k:Int):Int:=if 512<=ns.length then 2 else if okD ns op a b then dE ns op a b k else 1
abbrev doP (ns:List Nd) (op a b k:Int):Prop:=(ns.length < 512/\okD ns op a b)/\dE ns op a b k=0
def doR (ns:List Nd) (op a b k:Int):Int:=if doP ns op a b k then (ns.length:Int) else 0
def doN (ns:List Nd) (op a b k:Int):List Nd:=if doP ns op a b k then ns++[dN ns op a b k] else ns
def NodesG (ns:List Nd):Prop:=∀ nd,nd∈ns->c_r nd.D nd.X
theorem g_m {W:World} {b:Nat} {D E L H I J:Value} {e:TypeId} (h:W.heap[b]?=some (.cells #[D,E,L,H,I,J] e (0,0))):
  (W.cell? ⟨b,0,none⟩=some D/\W.cell? ⟨b,1,none⟩=some E/\W.cell? ⟨b,2,none⟩=some L/\W.cell? ⟨b,3,none⟩=some H/\W.cell? ⟨b,4,none⟩=some I/\W.cell? ⟨b,5,none⟩=some J)/\∀ j,W.frozen? ⟨b,j,none⟩=false:=by
 have c:∀ j v,#[D,E,L,H,I,J][j]?=some v->W.cell? ⟨b,j,none⟩=some v:=fun j v M=>by
  unfold World.cell?;simp only [h];exact M
 refine ⟨⟨c 0 _ rfl,c 1 _ rfl,c 2 _ rfl,c 3 _ rfl,c 4 _ rfl,c 5 _ rfl⟩,fun j=>?_⟩;unfold World.frozen?;simp [h]
theorem k_K {ns:List Nd} {i:Nat} {nd:Nd} (h:ns[i]?=some nd):ndN ns (i:Int)=nd:=by
 unfold ndN;rw [show ((i:Int)).toNat=i from rfl,List.getD_eq_getElem?_getD,h];rfl
theorem f_K {ns:List Nd} {i:Nat} {nd:Nd} (h:ns[i]?=some nd):nd∈ns:=List.mem_of_getElem? h
theorem NodesG.nil:NodesG []:=fun nd h=>by simp at h
theorem NodesG.push {ns:List Nd} {nd:Nd} (h:NodesG ns) (H:c_r nd.D nd.X):NodesG (ns++[nd]):=fun x E=>by
 rcases List.mem_append.1 E with E|E
 ·exact h x E
 ·simp at E;subst E;exact H
theorem NodesG.leaf {ns:List Nd} {d x:List Int} (h:NodesG ns) (E:RI x):NodesG (c_Q ns d x):=by
 unfold c_Q
 split
 ·rename_i D
  exact h.push (f_U D.2 E)
 ·exact h
theorem NodesG.at {ns:List Nd} {i:Int} (h:NodesG ns) (H:0<=i) (I:i < (ns.length:Int)):c_r (ndN ns i).D (ndN ns i).X:=by
 obtain ⟨j,rfl⟩:∃ j:Nat,i=j:=⟨i.toNat,by omega⟩
 have E:ns[j]?=some (ns[j]'(by omega)):=List.getElem?_eq_getElem _;rw [k_K E];exact h _ (f_K E)
theorem NodesG.do {ns:List Nd} {op a b k:Int} (h:NodesG ns):NodesG (doN ns op a b k):=by
 unfold doN
 split
 ·rename_i E
  have D:=E.1.2;refine h.push ?_;exact t_E D.1.1 D.1.2 (h.at D.2.1.1 D.2.1.2).2.2 E.2
 ·exact h
theorem j_V (ns:List Nd) (d x:List Int) (h:ns.length<=512):(c_Q ns d x).length<=512:=by
 unfold c_Q
 split
 ·rename_i D
  have:=D.1;simp;omega
 ·exact h
theorem p_g (ns:List Nd) (op a b k:Int) (h:ns.length<=512):(doN ns op a b k).length<=512:=by
 unfold doN
 split
 ·rename_i D
  have:=D.1.1;simp;omega
 ·exact h
/-- One step: its error, its number, the nodes behind it. -/
def lsE (ns:List Nd) (s:Nd):Int:=if s.op=1 then f_I ns s.D s.X else doE ns s.op s.a s.b s.k
def lsR (ns:List Nd) (s:Nd):Int:=if s.op=1 then f_J ns s.D s.X else doR ns s.op s.a s.b s.k
def lsN (ns:List Nd) (s:Nd):List Nd:=if s.op=1 then c_Q ns s.D s.X else doN ns s.op s.a s.b s.k
def stA (sts:List Nd) (i:Nat):Nd:=sts.getD i ⟨1,0,0,0,[],[]⟩
/-- The first i steps: an error, the nodes, the last one's number. -/
def lyF (sts ns:List Nd):Nat->Int×List Nd×Int
 | 0=>(0,ns,0)
 | i+1=>if (lyF sts ns i).1=0 then (lsE (lyF sts ns i).2.1 (stA sts i),lsN (lyF sts ns i).2.1 (stA sts i),lsR (lyF sts ns i).2.1 (stA sts i)) else lyF sts ns i
theorem j_W (sts ns:List Nd) (i:Nat) (h:(lyF sts ns i).1≠0):∀ k,lyF sts ns (i+k)=lyF sts ns i
 | 0=>rfl
 | k+1=>by
  have e:=j_W sts ns i h k;show (if (lyF sts ns (i+k)).1=0 then _ else lyF sts ns (i+k))=_;rw [e,if_neg h]
abbrev lyP (ns sts:List Nd):Prop:=ns.length+sts.length<=512
def lyE (ns sts:List Nd):Int:=if lyP ns sts then (lyF sts ns sts.length).1 else 2
def lyR (ns sts:List Nd):Int:=if lyP ns sts/\(lyF sts ns sts.length).1=0 then (lyF sts ns sts.length).2.2 else 0
def lyM (ns sts:List Nd):List Nd:=if lyP ns sts then (lyF sts ns sts.length).2.1 else ns
/-- Whether out and want go together; whether a class is one of out's places. -/
def e_W (ns:List Nd) (o:Int) (y:List Int):Int:=if (0<=o/\o < (ns.length:Int))/\y.length=(ndN ns o).X.length then if (ndN ns o).D.length=1 then 0 else 4 else 1
def i_K (ns:List Nd) (o c:Int):Int:=if 0<=o/\o < (ns.length:Int) then if (ndN ns o).D.length=1/\0<=c/\c < ((ndN ns o).X.length:Int) then 0 else 4 else 1
def m_x (ns:List Nd) (o c:Int):Nat:=if i_K ns o c=0 then (ndN ns o).X.length else 0
def lfS (y:List Int):Nd:=⟨1,0,0,0,[(y.length:Int)],y⟩
def opS (op a b k:Int):Nd:=⟨op,a,b,k,[],[]⟩
def sqS (N o:Int) (y:List Int):List Nd:=[lfS y,opS 3 o N 0,opS 4 (N+1) (N+1) 0,opS 10 (N+2) 0 0]
def szS (N o:Int) (y:List Int):List Nd:=[lfS y,opS 3 o N 0,opS 11 (N+1) 0 4,opS 10 (N+2) 0 0]
def k_9 (m:Nat) (a c t:Int):List Int:=(List.replicate m a).set c.toNat t
def hgS (N o:Int) (m:Nat) (c:Int):List Nd:=[lfS (k_9 m 0 c (-4294967296)),lfS (k_9 m 4294967296 c 0),opS 4 o N 0,opS 9 (N+2) 0 0,opS 2 o (N+3) 0,opS 2 (N+4) (N+1) 0,opS 11 (N+5) 0 1,opS 4 (N+6) (N+1) 0,opS 9 (N+7) 0 0]
/-- What a loss tells and leaves, e what was asked first. -/
def loE (e:Int) (ns sts:List Nd):Int:=if e=0 then lyE ns sts else e
def loR (e:Int) (ns sts:List Nd):Int:=if e=0 then lyR ns sts else 0
def loN (e:Int) (ns sts:List Nd):List Nd:=if e=0 then lyM ns sts else ns
theorem NodesG.ls {ns:List Nd} {s:Nd} (h:NodesG ns) (D:RI s.X):NodesG (lsN ns s):=by
 unfold lsN
 split
 ·exact h.leaf D
 ·exact h.do
theorem b_M:RI []:=fun y D=>by simp at D
/-- Nodes behind others. -/
theorem m_y {ns D:List Nd} {i:Int} (h:0<=i/\i < (ns.length:Int)):ndN (ns++D) i=ndN ns i:=by
 unfold ndN;rw [List.getD_eq_getElem?_getD,List.getD_eq_getElem?_getD,List.getElem?_append_left (by omega)]
theorem q_t (ns:List Nd) (nd:Nd):ndN (ns++[nd]) (ns.length:Int)=nd:=by
 unfold ndN;rw [List.getD_eq_getElem?_getD,Int.toNat_natCast,List.getElem?_append_right (Nat.le_refl _),Nat.sub_self];rfl
def TapC (W:World) (B b:Nat) (ns:List Nd):Prop:=Tap 90 109 W B b ns
abbrev SC:List TypeId:=[90,109]
theorem TapC.up {W W':World} {B b:Nat} {ns:List Nd} (h:TapC W B b ns) (D:Below W.heap.size W W'):TapC W' B b ns:=Tap.up h D
theorem o_t:109≠90:=by decide
def Spare (tb:Nat) (w w':World):Prop:=∀ x v,w.heap[tb]?=some (.cells #[v] 90 (0,0))->x≠tb->x < w.heap.size->v.ownBlock≠some x->w'.heap[x]?=w.heap[x]?/\∃ v',w'.heap[tb]?=some (.cells #[v'] 90 (0,0))/\v'.ownBlock≠some x
theorem Spare.of {E:Nat} {w H:World} (h:Below w.heap.size w H):Spare E w H:=fun x v D _ J I=>⟨h.block x J,v,(h.block E (a_i D)).trans D,I⟩
theorem Spare.trans {H:Nat} {a b c:World} (h:Spare H a b) (M:Spare H b c):Spare H a c:=fun x v R J L U=>by
 obtain ⟨I,V,E,D⟩:=h x v R J L U
 have hb:x < b.heap.size:=by
  rw [Array.getElem?_eq_getElem L] at I;exact a_i I
 obtain ⟨O,r⟩:=M x V E J hb D;exact ⟨O.trans I,r⟩
/-- No node's dims lie in block x. -/
def AvT (x:Nat) (W:World) (tb:Nat):Prop:=∃ v,W.heap[tb]?=some (.cells #[v] 90 (0,0))/\∀ g m c,v = .slice (some ⟨g,0,none⟩) m c->g < W.heap.size/\∀ i,i < m->∀ ad m' c',W.cell? ⟨g,i*6+4,none⟩=some (.slice (some ad) m' c')->ad.block≠x
def SpA (H tb:Nat) (w w':World):Prop:=∀ x,x < H->AvT x w tb->AvT x w' tb
theorem AvT.up {x D:Nat} {W W':World} (h:AvT x W D) (E:Below W.heap.size W W'):AvT x W' D:=by
 obtain ⟨v,J,h⟩:=h;refine ⟨v,(E.block D (a_i J)).trans J,fun g m c e=>?_⟩;obtain ⟨I,M⟩:=h g m c e;refine ⟨Nat.lt_of_lt_of_le I E.size,fun i R U L O H=>M i R U L O ?_⟩;unfold World.cell? at H ⊢;rw [<- E.block g I];exact H
theorem q_u {w6 V:World} {B J N cL c8 H x:Nat} {pL:Option Addr} {D u:List Value} {s:Value} (ae:w6.heap[J]?=some (.cells #[.slice pL N cL] 90 (0,0))) (M:w6.ownsRow B 109 6 (.slice pL N cL) N D) (hl:D.length=N*6) (O:V.heap[J]?=some (.cells #[.slice pL N cL] 90 (0,0)))
  (E:V.ownsRow B 109 6 (.slice (some ⟨H,0,none⟩) (N+1) c8) (N+1) (D++u)) (hu:u[4]?=some s) (hs:∀ L m c,s = .slice (some L) m c->L.block≠x) (I:AvT x w6 J):AvT x (V.setCell ⟨J,0,none⟩ (.slice (some ⟨H,0,none⟩) (N+1) c8)) J:=by
 obtain ⟨v,hv,I⟩:=I;rw [ae] at hv;cases hv;have aa:H≠J:=fun e=>d_8 o_t O E (by rw [<- e];rfl);refine ⟨_,(a_n O).trans rfl,fun g m c e=>?_⟩;cases e;refine ⟨by have:=(World.ownsRow.lt E H rfl).2;simpa using this,fun i hi L m' c' hc=>?_⟩
 have R:V.cell? ⟨H,i*6+4,none⟩=some (.slice (some L) m' c'):=by
  unfold World.cell? at hc ⊢;rw [a_U _ _ _ _ _ aa] at hc;exact hc
 by_cases ab:i < N
 ·have hj:i*6+4 < D.length:=by omega
  obtain ⟨z,hz⟩:∃ z,D[i*6+4]?=some z:=⟨_,List.getElem?_eq_getElem hj⟩
  have U:=E.cells (g:=H) rfl (i*6+4) z (by rw [List.getElem?_append_left hj];exact hz);rw [a_u,Nat.zero_add,R] at U;cases U;rcases M.2 with ⟨h0,h1⟩|⟨g,cap,af,hv,hb,hg,rest⟩
  ·omega
  ·cases hv;have h6:=M.cells (g:=g) rfl (i*6+4) _ hz;rw [a_u,Nat.zero_add] at h6;exact (I g N cL rfl).2 i ab L m' c' h6
 ·have ac:i=N:=by omega
  subst ac;have U:=E.cells (g:=H) rfl (i*6+4) s (by rw [List.getElem?_append_right (by omega),hl,Nat.add_sub_cancel_left];exact hu);rw [a_u,Nat.zero_add,R] at U;cases U;exact hs L m' c' rfl
theorem m_z {W:World} {H M L:Nat} {J:Option Addr} {D:List Int} (h:OwnK .i64 3 W H (.slice J M L) D):∀ E m c,Value.slice J M L = .slice (some E) m c->H<=E.block:=fun E m c e=>by
 rcases h.2 with ⟨I,_⟩|⟨g,cap,R,O,hb,_⟩
 ·rw [e] at I;cases I
 ·rw [e] at O;cases O;exact hb
theorem m_A {W:World} {H L J x:Nat} {I:Option Addr} {D:List Int} (h:OwnK .i64 3 W H (.slice I L J) D) (M:x < H):∀ E m c,Value.slice I L J = .slice (some E) m c->E.block≠x:=fun E m c e=>by
 have:=m_z h E m c e;omega
/-- What a tape's change leaves to others. -/
def Spar2 (tb:Nat) (w w':World):Prop:=Spare tb w w'/\SpA w.heap.size tb w w'
theorem Spar2.of {H:Nat} {w D:World} (h:Below w.heap.size w D):Spar2 H w D:=⟨Spare.of h,fun x _ E=>E.up h⟩
theorem Spar2.trans {D:Nat} {a b c:World} (h:Spar2 D a b) (H:Spar2 D b c) (J:a.heap.size<=b.heap.size):Spar2 D a c:=⟨h.1.trans H.1,fun x E I=>H.2 x (Nat.lt_of_lt_of_le E J) (h.2 x E I)⟩
theorem Spar2.kept {I L O:Nat} {M:Option Addr} {D:List Int} {w E J:World} (h:Below w.heap.size w E) (R:Spare I E J/\∀ H,OwnK .i64 3 E H (.slice M L O) D->SpA H I E J) (U:OwnK .i64 3 E w.heap.size (.slice M L O) D):Spar2 I w J:=
 ⟨(Spare.of h).trans R.1,fun x hx V=>R.2 _ U x hx (V.up h)⟩
/-- A node's dims lie below the heap's end. -/
theorem TapC.av {W:World} {B H x:Nat} {ns:List Nd} (h:TapC W B H ns) (hx:W.heap.size<=x):AvT x W H:=by
 obtain ⟨p,c,xs,M,I,R,_⟩:=Tap.head h;refine ⟨_,M,fun g m c' e=>?_⟩;cases e;refine ⟨(World.ownsRow.lt I g rfl).2,fun i hi ad m' U V=>?_⟩;obtain ⟨q,nd,s,t,e,_,_,_,_,_,J,_,hs,_⟩:=d_v I R rfl i hi;cases e;rw [V] at J;cases J;rcases hs.2 with ⟨h0,_⟩|⟨O,cap,L,D,_,E,_⟩
 ·cases h0
 ·cases D;have:=a_i E;intro e;have e':O=x:=e;omega
/-- A row of ints of another's may grow. -/
theorem TapC.beside {W W':World} {B tb r:Nat} {ns:List Nd} {cs:Array Value} {fz:Nat×Nat} (h:TapC W B tb ns) (hg:W.grownBy W' (some r)) (hr:W.heap[r]?=some (.cells cs 3 fz)) (ha:AvT r W tb):TapC W' B tb ns:=by
 have hk:∀ (k:Nat) (L:Array Value) (e:TypeId) (J:Nat×Nat),W.heap[k]?=some (.cells L e J)->e≠3->W'.heap[k]?=some (.cells L e J):=fun k L e J U h2=>by
  rw [hg.block k (a_i U) (fun e'=>by cases e';rw [hr] at U;cases U;exact h2 rfl)];exact U
 obtain ⟨hb,v,xs,hv,ho,hn⟩:=h
 have V:W'.ownsRow B 109 6 v ns.length xs:=by
  refine ⟨ho.1,?_⟩;rcases ho.2 with hn|⟨g,cap,D,hv,hb,hg,rest⟩
  ·exact .inl hn
  ·exact .inr ⟨g,cap,D,hv,hb,hk _ _ _ _ hg (by decide),rest⟩
 refine ⟨hb,v,xs,hk _ _ _ _ hv (by decide),V,hn.1,fun i nd hi=>?_⟩;obtain ⟨s,t,e,hs,ht⟩:=hn.2 i nd hi;refine ⟨s,t,e,⟨hs.1,?_⟩,⟨ht.1,?_⟩⟩
 ·rcases hs.2 with M|⟨g,cap,D,H,I,E,rest⟩
  ·exact .inl M
  ·refine .inr ⟨g,cap,D,H,I,?_,rest⟩;rw [hg.block g (a_i E) (fun e'=>?_)]
   ·exact E
   ·cases e';obtain ⟨v',R,ac⟩:=ha;rw [hv] at R;cases R
    have ab:i < ns.length:=by
     rcases Nat.lt_or_ge i ns.length with h|h
     ·exact h
     ·rw [List.getElem?_eq_none h] at hi;cases hi
    have hx:xs[i*6+4]?=some s:=by
     have O:((xs.drop (i*6)).take 6)[4]?=some s:=by rw [e];rfl
     rw [List.getElem?_take] at O
     split at O
     ·rw [List.getElem?_drop] at O;exact O
     ·cases O
    rcases ho.2 with ⟨_,U⟩|⟨g2,ae,ad,aa,_,_,_⟩
    ·omega
    ·subst aa;have h6:=ho.cells (g:=g2) rfl (i*6+4) _ hx;rw [a_u,Nat.zero_add,H] at h6;exact (ac g2 _ _ rfl).2 i ab _ _ _ h6 rfl
 ·rcases ht.2 with M|⟨g,cap,D,H,I,E,rest⟩
  ·exact .inl M
  ·exact .inr ⟨g,cap,D,H,I,hk _ _ _ _ E (by decide),rest⟩
theorem AvT.beside {W W':World} {J r x B:Nat} {ns:List Nd} {cs:Array Value} {fz:Nat×Nat} (h:AvT x W J) (hT:TapC W B J ns) (hg:W.grownBy W' (some r)) (hr:W.heap[r]?=some (.cells cs 3 fz)):AvT x W' J:=by
 obtain ⟨v,M,h⟩:=h;have E:∀ (k:Nat) (I:Array Value) (e:TypeId) (H:Nat×Nat),W.heap[k]?=some (.cells I e H)->e≠3->W'.heap[k]?=W.heap[k]?:=fun k I e H R L=>hg.block k (a_i R) (fun e'=>by cases e';rw [hr] at R;cases R;exact L rfl);refine ⟨v,(E _ _ _ _ M (by decide)).trans M,fun g m c e=>?_⟩;obtain ⟨O,L⟩:=h g m c e;refine ⟨Nat.lt_of_lt_of_le O hg.size,fun i hi ad m' c' hc=>L i hi ad m' c' ?_⟩;obtain ⟨p,c2,xs,D,ho,_,_⟩:=Tap.head hT;rw [M] at D;cases D;cases e;rcases ho.2 with ⟨h0,_⟩|⟨g2,aa,V,D,_,U,_⟩
 ·cases h0
 ·cases D;unfold World.cell? at hc ⊢;rw [<- E _ _ _ _ U (by decide)];exact hc
/-- A row of nodes of one's own, and where it lies. -/
def OwnL (e:TypeId) (B n:Nat) (xs:List Value) (r:Option Nat) (H:Nat) (v:Value) (W:World):Prop:=OwnN e B n xs v W/\∃ g c,v = .slice (some ⟨g,0,none⟩) n c/\(r=some g∨H<=g)
theorem OwnL.up {e:TypeId} {B n:Nat} {D:List Value} {r:Option Nat} {H:Nat} {v:Value} {W W':World} (h:OwnL e B n D r H v W) (E:Below W.heap.size W W'):OwnL e B n D r H v W':=⟨OwnN.up h.1 E,h.2⟩
theorem s_1:StT Tryz.prog 88 109 80:=⟨Tryz.underlying88,by kernel_rfl⟩
/-- append of one node that a literal holds, and where the row lies then. -/
theorem t_F {P:Program} {t e:TypeId} {b:Nat} (T:StT P t e b) (hb:b<=128) (O:TypeId) (W:World) (B:Nat) (v:Value) (n:Nat) (L:List Value) (V:W.ownsRow B e 6 v n L) (g:Nat) (u:List Value) (hg:W.heap[g]?=some (.cells u.toArray e (0,0))) (hu:u.length=6) (h1:∀ x∈u,x.oneCell'=true) (hn:n+1<=1073741824) (R:B<=W.heap.size):
  ∃ E cap J,(Builtin.append_ #[t,t] O #[v,.slice (some ⟨g,0,none⟩) 1 1]).run P W = .ok (.slice (some ⟨E,0,none⟩) (n+1) cap) J/\J.ownsRow B e 6 (.slice (some ⟨E,0,none⟩) (n+1) cap) (n+1) (L++u)/\W.grownBy J v.ownBlock/\(v.ownBlock=some E∨E=W.heap.size):=by
 have H:=T.hi;cases h:P.info? e with
 | none=>rw [h] at H;cases H
 | some i=>
  rw [h] at H;simp only [Option.map_some,Option.some.injEq,Prod.mk.injEq] at H;obtain ⟨I,hs,M⟩:=H;cases D:i.zero with
  | none=>rw [D] at I;cases I
  | some z=>
   rw [D] at I;simp only [Option.map_some,Option.some.injEq] at I;have hm:(n+1)*b<=1073741824*128:=Nat.mul_le_mul hn hb
   obtain ⟨E,cap,J,hr,U,h3,h4,_⟩:=run_append_lies (P:=P) W t O B e i z 6 b T.ht h D hs M I (by decide) v n L V ⟨g,0,none⟩ 1 1 u (by omega) (fun j x hj=>by
    rw [a_u,Nat.zero_add];unfold World.cell?;simpa [hg] using hj) h1 (by omega) (by unfold maxLen;omega) (by omega) R _ rfl
   exact ⟨E,cap,J,hr,U,h3,h4⟩
theorem o_u (w:World):Calls Tryz.prog 21 #[] w fun e D=>∃ b,e = .returned (.pointer (some ⟨b,0,none⟩))/\TapC D w.heap.size b []/\Below w.heap.size w D:=by
 go_enter Tryz.func21,Tryz.ntmps21;go_wp2;exact bodyPost_ret (v:=.pointer (some ⟨w.heap.size,0,none⟩)) (by simp [results,Tryz.results21,go_sem]) rfl ⟨_,rfl,Tap.new (Nat.le_refl _),a_b _ _⟩
theorem c_e (B J:Nat) (ns:List Nd) (q:Bool) (R:decide (512<=ns.length)=q) (w:World) (H:TapC w B J ns):Calls Tryz.prog 96 #[.pointer (some ⟨J,0,none⟩)] w fun e w'=>e = .returned (.bool q)/\w'=w:=by
 have O:Hid (TapC w B J ns):=H;obtain ⟨pL,cL,aa,E,U,M,D⟩:=Tap.head H;obtain ⟨N,L⟩:∃ N,ns.length=N:=⟨_,rfl⟩
 rw [L] at E U D;have I:=(b_G E).1;have hz:=a_i E;rw [L] at R;have V:decide ((512:Int)<=(N:Int))=q:=by rw [<- R];exact decide_eq_decide.2 (by omega)
 clear H O E U M D L;go_enter Tryz.func96,Tryz.ntmps96;go_wp2;go_ret;exact ⟨rfl,rfl⟩
theorem c_R (B M:Nat) (ns:List Nd) (i:Int) (q:Bool) (E:decide (0<=i/\i < (ns.length:Int))=q) (w:World) (I:TapC w B M ns):Calls Tryz.prog 70 #[.pointer (some ⟨M,0,none⟩),.int .i64 i] w fun e w'=>e = .returned (.bool q)/\w'=w:=by
 have U:Hid (TapC w B M ns):=I;obtain ⟨pL,cL,aa,H,V,R,D⟩:=Tap.head I;obtain ⟨N,O⟩:∃ N,ns.length=N:=⟨_,rfl⟩
 rw [O] at H V D;have L:=(b_G H).1;have hz:=a_i H;rw [O] at E;clear I U H V R D O;by_cases h0:i < 0
 ·have J:q=false:=by rw [<- E];exact decide_eq_false (by omega)
  subst J;have d1:decide (0<=i)=false:=decide_eq_false (by omega);clear E h0;go_enter Tryz.func70,Tryz.ntmps70;go_wp2;go_ret;exact ⟨rfl,rfl⟩
 ·have d1:decide (0<=i)=true:=decide_eq_true (by omega);have d2:decide (i < (N:Int))=q:=by rw [<- E];exact decide_eq_decide.2 (by omega)
  clear E h0;go_enter Tryz.func70,Tryz.ntmps70;go_wp2;go_ret;exact ⟨rfl,rfl⟩
theorem f_L (op:Int) (q:Bool) (E:decide (d_A op)=q) (w:World):
  Calls Tryz.prog 99 #[.int .i64 op] w fun e R=>e = .returned (.bool q)/\R=w:=by
 by_cases L:op=2
 ·subst L;have D:q=true:=by rw [<- E];decide
  subst D;clear E;go_enter Tryz.func99,Tryz.ntmps99;go_wp2;go_ret;exact ⟨rfl,rfl⟩
 by_cases M:op=3
 ·subst M;have D:q=true:=by rw [<- E];decide
  subst D;clear E;go_enter Tryz.func99,Tryz.ntmps99;go_wp2;go_ret;exact ⟨rfl,rfl⟩
 by_cases I:op=4
 ·subst I;have D:q=true:=by rw [<- E];decide
  subst D;clear E;go_enter Tryz.func99,Tryz.ntmps99;go_wp2;go_ret;exact ⟨rfl,rfl⟩
 by_cases J:op=6
 ·subst J;have D:q=true:=by rw [<- E];decide
  subst D;clear E;go_enter Tryz.func99,Tryz.ntmps99;go_wp2;go_ret;exact ⟨rfl,rfl⟩
 by_cases H:op=12
 ·subst H;have D:q=true:=by rw [<- E];decide
  subst D;clear E;go_enter Tryz.func99,Tryz.ntmps99;go_wp2;go_ret;exact ⟨rfl,rfl⟩
 have g2:(op==2)=false:=by simpa using L
 have U:(op==3)=false:=by simpa using M
 have g4:(op==4)=false:=by simpa using I
 have V:(op==6)=false:=by simpa using J
 have O:(op==12)=false:=by simpa using H
 have D:q=false:=by rw [<- E];exact decide_eq_false (by omega)
 subst D;clear E L M I J H;go_enter Tryz.func99,Tryz.ntmps99;go_wp2;go_ret;exact ⟨rfl,rfl⟩
theorem h_0 (op:Int) (q:Bool) (E:decide (byP op)=q) (w:World):
  Calls Tryz.prog 100 #[.int .i64 op] w fun e V=>e = .returned (.bool q)/\V=w:=by
 by_cases L:op=5
 ·subst L;have D:q=true:=by rw [<- E];decide
  subst D;clear E;go_enter Tryz.func100,Tryz.ntmps100;go_wp2;go_ret;exact ⟨rfl,rfl⟩
 by_cases M:op=8
 ·subst M;have D:q=true:=by rw [<- E];decide
  subst D;clear E;go_enter Tryz.func100,Tryz.ntmps100;go_wp2;go_ret;exact ⟨rfl,rfl⟩
 by_cases I:op=11
 ·subst I;have D:q=true:=by rw [<- E];decide
  subst D;clear E;go_enter Tryz.func100,Tryz.ntmps100;go_wp2;go_ret;exact ⟨rfl,rfl⟩
 by_cases H:op=12
 ·subst H;have D:q=true:=by rw [<- E];decide
  subst D;clear E;go_enter Tryz.func100,Tryz.ntmps100;go_wp2;go_ret;exact ⟨rfl,rfl⟩
 by_cases J:op=13
 ·subst J;have D:q=true:=by rw [<- E];decide
  subst D;clear E;go_enter Tryz.func100,Tryz.ntmps100;go_wp2;go_ret;exact ⟨rfl,rfl⟩
 have g5:(op==5)=false:=by simpa using L
 have g8:(op==8)=false:=by simpa using M
 have R:(op==11)=false:=by simpa using I
 have O:(op==12)=false:=by simpa using H
 have U:(op==13)=false:=by simpa using J
 have D:q=false:=by rw [<- E];exact decide_eq_false (by omega)
 subst D;clear E L M I H J;go_enter Tryz.func100,Tryz.ntmps100;go_wp2;go_ret;exact ⟨rfl,rfl⟩
theorem h_1 {B:Nat} {a b c:World} (h:Below B a b) (D:Below B b c):Below B a c:=h.trans D
theorem f_M (p V:Option Addr) (n c U R:Nat) (dd E:List Int) (hg:isP dd E) (w:World) (h1:Nums .i64 w (.slice p n c) dd) (h2:Nums .i64 w (.slice V U R) E):
  Calls Tryz.prog 71 #[.agg #[.slice p n c,.slice V U R]] w fun e H=>∃ v,e = .returned v/\TRes H w.heap.size v dd E/\Below w.heap.size w H:=by
 have aa:dd.length<=1073741824:=by have:=hg.1.1;rw [a_R] at this;omega
 have ab:E.length<=1073741824:=by have h3:=hg.1.2.2;have h4:=hg.2;omega
 have CI:Hid (∀ W,Below w.heap.size w W->Calls Tryz.prog 75 #[.slice p n c] W fun e H=>∃ O,e = .returned O/\OwnK .i64 3 H W.heap.size O dd/\Below W.heap.size W H):=fun W hW=>b_i _ dd (by omega) W (h1.up hW);have CF:Hid (∀ W,Below w.heap.size w W->Calls Tryz.prog 91 #[.slice V U R] W fun e H=>∃ O,e = .returned O/\OwnK .i64 23 H W.heap.size O E/\Below W.heap.size W H):=fun W hW=>g_c _ E (by omega) W (h2.up hW);haveI:Nonempty World:=⟨w⟩
 clear h1 h2 aa ab hg;go_enter Tryz.func71,Tryz.ntmps71;go_wp2_with fail
 generalize D:World.alloc _ _=W0;have L:=b_W (w:=w) D (by go_grown);have XA:Hid (Cel W0 w.heap.size (.slice p n c) (.slice V U R)):=a_F D (by simp [go_sem]);have XR:Hid (Cel W0 (w.heap.size+1) (.slice none 0 0) (.slice none 0 0)):=a_F D (by simp [go_sem]);clear D;obtain ⟨a0,a1,_,_⟩:=XA.out;have k0:=a_a a0;refine rel [⟨2,5,fun v W=>OwnK .i64 3 W W0.heap.size v dd⟩,⟨5,8,fun v W=>OwnK .i64 23 W W0.heap.size v E⟩,⟨6,9,OwnT W0.heap.size dd E⟩] 7 10 (by kernel_rfl) rfl rfl (by kernel_rfl) (by rfl) ?_ ?_
 ·intro e he v W W' h hb;simp only [List.mem_cons,List.not_mem_nil,or_false] at he;rcases he with rfl|rfl|rfl
  ·exact OwnK.up h hb
  ·exact OwnK.up h hb
  ·exact OwnT.up h hb
 apply Exists.intro;refine ⟨fun x=>?_,?_,?_⟩
 ·simp only [List.take_succ_cons,List.take_zero]
  iterate 2
   refine a_l rfl rfl ?_;apply Exists.intro;refine ⟨fun F hF hf K hK=>?_,?_⟩
   ·have hFc:=hF.cell;have hFf:=hF.frozen
    go_big_quiet_op
    exact hK
   (try simp only [c_I])
  refine a_o rfl rfl ?_ ?_
  ·intro F hF hf d;have hFc:=hF.cell;have hFf:=hF.frozen;simp [a_j,a_f,go_sem];refine (CI.out (F d) (a_c L.out (hF.below d))).mono ?_;rintro e' w8 ⟨v8,rfl,I,J⟩;exact ⟨_,rfl,I.low (hF.below d).size,J⟩
  iterate 2
   (try simp only [c_I])
   refine a_l rfl rfl ?_;apply Exists.intro;refine ⟨fun F hF hf K hK=>?_,?_⟩
   ·have hFc:=hF.cell;have hFf:=hF.frozen
    go_big_quiet_op
    exact hK
  (try simp only [c_I])
  refine a_o rfl rfl ?_ ?_
  ·intro F hF hf d;have hFc:=hF.cell;have hFf:=hF.frozen;simp [a_j,a_f,go_sem];refine (CF.out (F d) (a_c L.out (hF.below d))).mono ?_;rintro e' w8 ⟨v8,rfl,I,J⟩;exact ⟨_,rfl,I.low (hF.below d).size,J⟩
  (try simp only [c_I])
  refine a_o rfl rfl ?_ ?_
  ·intro F hF hf d;have hFc:=hF.cell;have hFf:=hF.frozen;have h9:OwnK .i64 3 (F d) W0.heap.size (x 2) dd:=hf _ List.mem_cons_self (by rfl) d;have I:OwnK .i64 23 (F d) W0.heap.size (x 5) E:=hf _ (List.mem_cons_of_mem _ List.mem_cons_self) (by rfl) d;obtain ⟨p9,n9,c9,e9⟩:=h9.form_;obtain ⟨p8,n8,c8,e8⟩:=I.form_;rw [e9] at h9;rw [e8] at I;simp [a_j,a_f,go_sem,e9,e8];exact ⟨⟨_,_,_,_,_,_,rfl,h9,I⟩,Below.refl _ _⟩
  (try simp only [c_I])
  refine b_a ?_;exact rfl
 ·exact fun x=>rfl
 ·intro w1 xs ac hf;simp only [List.drop_succ_cons,List.drop_zero];have M:=hf _ (List.mem_cons_of_mem _ (List.mem_cons_of_mem _ List.mem_cons_self));obtain ⟨x2,e2⟩:∃ q,xs 2=q:=⟨_,rfl⟩
  obtain ⟨x5,e5⟩:∃ q,xs 5=q:=⟨_,rfl⟩
  obtain ⟨x6,e6⟩:∃ q,xs 6=q:=⟨_,rfl⟩
  simp only [e6] at M;simp only [e2,e5,e6];obtain ⟨pa,na,ca,pb,nb,cb,rfl,hs,ht⟩:=M;clear e2 e5 e6 hf CI CF a0 a1 k0;obtain ⟨HF,r0,r1,r2,r3,z0,z1⟩:=h_m XR L ac hs ht (by omega);clear hs ht;go_wp2;exact bodyPost_ret (v:=.agg #[.slice pa na ca,.slice pb nb cb]) (by simp [results,Tryz.results71,go_sem,z0,z1]) rfl ⟨_,rfl,HF.out⟩
theorem j_X (B J:Nat) (ns:List Nd) (nd:Nd) (pa pb:Option Addr) (V ca nb cb:Nat) (ab:ns.length < 512) (w:World) (hT:TapC w B J ns) (hs:OwnK .i64 3 w B (.slice pa V ca) nd.D) (ht:OwnK .i64 23 w B (.slice pb nb cb) nd.X):
  Calls Tryz.prog 98 #[.pointer (some ⟨J,0,none⟩),.agg #[.int .i64 nd.op,.int .i64 nd.a,.int .i64 nd.b,.int .i64 nd.k,.slice pa V ca,.slice pb nb cb]] w fun e w'=>e = .returned (.int .i64 (ns.length:Int))/\TapC w' B J (ns++[nd])/\Below B w w'/\Only SC w w'/\Spare J w w'/\∀ H,OwnK .i64 3 w H (.slice pa V ca) nd.D->SpA H J w w':=by
 obtain ⟨op,a,bb,k,D,X⟩:=nd;have ah:Hid (TapC w B J ns):=hT;obtain ⟨R,O,aa,hv,ho,ag,af⟩:=Tap.head hT;obtain ⟨N,eN⟩:∃ N,ns.length=N:=⟨_,rfl⟩
 rw [eN] at hv ho af;have ap:=(b_G hv).1;have hz:=a_i hv;rw [eN];have hl:Hid (N < 512):=by show _ < _;rw [<- eN];exact ab
 have ax:Hid (B<=w.heap.size):=Nat.le_trans ah.out.1 (Nat.le_of_lt hz);have HS:Hid (OwnK .i64 3 w B (.slice pa V ca) D/\OwnK .i64 23 w B (.slice pb nb cb) X):=⟨hs,ht⟩
 clear hT hv ho ag af hs ht ab ap hz O aa R;go_enter Tryz.func98,Tryz.ntmps98;go_wp2_with fail
 refine a_Q (fun L ak=>?_);have ay:L.heap[w.heap.size]?=some (.cells #[.int .i64 op,.int .i64 a,.int .i64 bb,.int .i64 k,.slice pa V ca,.slice pb nb cb] 109 (0,0)):=by rw [ak];exact heap_alloc_new _ _
 have I:Below w.heap.size w L:=by rw [ak];exact a_b _ _
 have ad:Hid (Below B w L/\B<=L.heap.size/\Only SC w L/\Spare J w L/\Below w.heap.size w L):=⟨I.mono ax.out,Nat.le_trans ax.out I.size,Only.of I,Spare.of I,I⟩
 have aj:Hid (NdC L B ⟨op,a,bb,k,D,X⟩ [.int .i64 op,.int .i64 a,.int .i64 bb,.int .i64 k,.slice pa V ca,.slice pb nb cb]):=⟨_,_,rfl,HS.out.1.up I,HS.out.2.up I⟩
 have ar:=ah.out.up I;obtain ⟨R,O,aa,hv,ho,ag,af⟩:=Tap.head ar;rw [eN] at hv ho;have E:Hid (B<=J/\L.heap[J]?=some (.cells #[.slice R N O] 90 (0,0))/\ns.length=N/\L.ownsRow B 109 6 (.slice R N O) N aa/\NdsC L B ns aa):=⟨ah.out.1,hv,eN,ho,ag⟩
 have ae:∀ z,Value.ownBlock (.slice R N O)=some z->z < w.heap.size:=fun z an=>by
  have h3:=ah.out;obtain ⟨aL,aK,aM,ao,aq,_,_⟩:=Tap.head h3;rw [eN] at ao aq;have h4:=I.block J (a_i ao);rw [hv,ao] at h4;cases h4;exact (World.ownsRow.lt aq z an).2
 have am:Hid (L.heap[w.heap.size]?=some (.cells #[.int .i64 op,.int .i64 a,.int .i64 bb,.int .i64 k,.slice pa V ca,.slice pb nb cb] 109 (0,0))/\some w.heap.size≠Value.ownBlock (.slice R N O)):=⟨ay,fun h=>by have:=ae _ h.symm;omega⟩
 have aC:Hid (∀ z,Value.ownBlock (.slice R N O)=some z->z < L.heap.size):=fun z an=>Nat.lt_of_lt_of_le (ae z an) I.size;have aI:Hid (∀ z∈([.int .i64 op,.int .i64 a,.int .i64 bb,.int .i64 k,.slice pa V ca,.slice pb nb cb]:List Value),z.oneCell'=true):=aj.out.one;clear hv ho ag af ae ak ar I ay HS;refine d_R (by kernel_rfl) ?_;refine seg (fun q W=>match q with|false=>Below L.heap.size L W|true=>L.grownBy W (Value.ownBlock (.slice R N O))) (fun W W'=>W.grownBy W' (Value.ownBlock (.slice R N O))) 7 [⟨6,11,LitS 109 L.heap.size [.int .i64 op,.int .i64 a,.int .i64 bb,.int .i64 k,.slice pa V ca,.slice pb nb cb]⟩,⟨7,12,OwnL 109 B (N+1) (aa++[.int .i64 op,.int .i64 a,.int .i64 bb,.int .i64 k,.slice pa V ca,.slice pb nb cb]) (Value.ownBlock (.slice R N O)) L.heap.size⟩] 0 10 21 rfl rfl (by kernel_rfl) (by rfl) ?_ ?_ ?_ ?_ ?_ ?_
 ·intro q W W' h hb;cases q
  ·exact a_c h hb
  ·exact g_M h hb
 ·exact ⟨rfl,rfl,rfl,Nat.le_refl _,fun _ _=>rfl⟩
 ·exact .inl ⟨_,List.mem_cons_of_mem _ List.mem_cons_self,rfl⟩
 ·intro e he v W W' h hb;simp only [List.mem_cons,List.not_mem_nil,or_false] at he;rcases he with rfl|rfl
  ·exact LitS.up h hb
  ·exact OwnL.up h hb
 ·intro e he aD v W W' h hc ht;simp only [List.mem_cons,List.not_mem_nil,or_false] at he;rcases he with rfl|rfl
  ·exact LitS.grown h ht aC.out
  ·exact absurd rfl aD
 apply Exists.intro;refine ⟨fun x=>?_,?_,?_⟩
 ·simp only [List.drop_succ_cons,List.drop_zero,List.take_succ_cons,List.take_zero]
  iterate 4
   refine b_P rfl rfl ?_;apply Exists.intro;refine ⟨fun b F hF hf K hK=>?_,?_⟩
   ·have hFc:=hF.cls
    go_big_quiet_op
    exact hK
   (try simp only [c_I])
  refine b_P rfl rfl ?_;apply Exists.intro;refine ⟨fun b F hF hf K hK=>?_,?_⟩
  ·have hFc:=hF.cls
   have q0:∀ d,(F d).cell? ⟨J,0,none⟩=some (.slice R N O):=fun d=>by
    have hK:L.grownBy (F d) (Value.ownBlock (.slice R N O)):=by
     cases b
     ·exact b_f _ (hFc d)
     ·exact hFc d
    exact hK.cell (b_G E.out.2.1).1 (Ne.symm (d_8 o_t E.out.2.1 E.out.2.2.2.1))
   clear hFc
   go_big_quiet_op
   exact hK
  (try simp only [c_I])
  refine b_P rfl rfl ?_;apply Exists.intro;refine ⟨fun b F hF hf K hK=>?_,?_⟩
  ·have hFc:=hF.cls
   have q0:∀ d,(F d).heap[w.heap.size]?=some (.cells #[.int .i64 op,.int .i64 a,.int .i64 bb,.int .i64 k,.slice pa V ca,.slice pb nb cb] 109 (0,0)):=fun d=>by
    have hK:L.grownBy (F d) (Value.ownBlock (.slice R N O)):=by
     cases b
     ·exact b_f _ (hFc d)
     ·exact hFc d
    rw [hK.block _ (a_i am.out.1) am.out.2];exact am.out.1
   have q1:=fun d=>(g_m (q0 d)).1.1;have q2:=fun d=>(g_m (q0 d)).1.2.1;have q3:=fun d=>(g_m (q0 d)).1.2.2.1;have q4:=fun d=>(g_m (q0 d)).1.2.2.2.1;have q5:=fun d=>(g_m (q0 d)).1.2.2.2.2.1;have q6:=fun d=>(g_m (q0 d)).1.2.2.2.2.2;clear hFc q0
   go_big_quiet_op
   exact hK
  (try simp only [c_I])
  refine i_I rfl (by decide) rfl ?_ ?_
  ·intro b F hF hf d;have hFc:=hF.cls
   have aB:L.heap.size<=(F d).heap.size:=by
    cases b
    ·exact (hFc d).size
    ·exact (hFc d).size
   simp [a_j,a_f,go_sem];exact ⟨⟨(F d).heap.size,rfl,heap_alloc_new (F d) _,aB⟩,a_b _ _⟩
  (try simp only [c_I])
  refine i_J rfl rfl rfl ?_ ?_
  ·intro W hW hf;have h7:=hf _ List.mem_cons_self (by rfl) W;obtain ⟨g7,e7,aH,_⟩:=h7;simp only [] at e7;obtain ⟨g8,c8,w8,aE,aG,ai,U⟩:=t_F s_1 (by decide) 88 W B (.slice R N O) N aa (a_z (S:=[]) E.out.2.2.2.1 (Only.of hW) (by simp)) g7 [.int .i64 op,.int .i64 a,.int .i64 bb,.int .i64 k,.slice pa V ca,.slice pb nb cb] aH rfl aI.out (by have:=hl.out;omega) (Nat.le_trans E.out.1 (Nat.le_trans (Nat.le_of_lt (a_i E.out.2.1)) (Below.size hW)));simp [d_f,c_A,execOp,resolve,invoke,builtin,Act.eval,e7,aE,Result.andThen];exact ⟨⟨aG,g8,c8,rfl,U.imp id fun e=>by rw [e];exact Below.size hW⟩,d_Q (b_f _ hW) ai,ai⟩
  iterate 2
   (try simp only [c_I])
   refine b_P rfl rfl ?_;apply Exists.intro;refine ⟨fun b F hF hf K hK=>?_,?_⟩
   ·have hFc:=hF.cls
    go_big_quiet_op
    exact hK
  (try simp only [c_I])
  refine m_v ?_;exact rfl
 ·exact fun x=>rfl
 ·intro w8 au av aw;have M:L.grownBy w8 (Value.ownBlock (.slice R N O)):=av;refine f_G 10 (by kernel_rfl) ?_;simp only [List.drop_succ_cons,List.drop_zero];have h8:=aw _ (List.mem_cons_of_mem _ List.mem_cons_self);obtain ⟨x6,e6⟩:∃ z,au 6=z:=⟨_,rfl⟩
  obtain ⟨x7,e7⟩:∃ z,au 7=z:=⟨_,rfl⟩
  simp only [e7] at h8;simp only [e6,e7];obtain ⟨h8,g8,c8,rfl,U⟩:=h8;obtain ⟨aA,az⟩:=Tap.push (TT:=90) (NT:=109) o_t (by decide) (by decide) (nd:=⟨op,a,bb,k,D,X⟩) E.out.1 E.out.2.1 (by rw [E.out.2.2.1];exact E.out.2.2.2.1) E.out.2.2.2.2 aj.out M (by rw [E.out.2.2.1];exact h8)
  have ac:w8.heap[J]?=some (.cells #[.slice R N O] 90 (0,0)):=by
   rw [M.block J (a_i E.out.2.1) (Ne.symm (d_8 o_t E.out.2.1 E.out.2.2.2.1))];exact E.out.2.1
  obtain ⟨r0,r1⟩:=b_G ac;have z0:=(b_G (v:=.slice (some ⟨g8,0,none⟩) (N+1) c8) (e:=90) (W:=w8.setCell ⟨J,0,none⟩ (.slice (some ⟨g8,0,none⟩) (N+1) c8)) (by rw [a_n ac];rfl)).1
  have HF:Hid (TapC (w8.setCell ⟨J,0,none⟩ (.slice (some ⟨g8,0,none⟩) (N+1) c8)) B J (ns++[⟨op,a,bb,k,D,X⟩])/\Below B w (w8.setCell ⟨J,0,none⟩ (.slice (some ⟨g8,0,none⟩) (N+1) c8))/\Only SC w (w8.setCell ⟨J,0,none⟩ (.slice (some ⟨g8,0,none⟩) (N+1) c8))/\Spare J w (w8.setCell ⟨J,0,none⟩ (.slice (some ⟨g8,0,none⟩) (N+1) c8))/\∀ H,OwnK .i64 3 w H (.slice pa V ca) D->SpA H J w (w8.setCell ⟨J,0,none⟩ (.slice (some ⟨g8,0,none⟩) (N+1) c8))):=by
   refine ⟨aA,(Below.grown ad.out.1 M ad.out.2.1 (k_J E.out.2.2.2.1)).setCell (p:=⟨J,0,none⟩) E.out.1 _,ad.out.2.2.1.trans az,ad.out.2.2.2.1.trans ?_,fun H hH x hx ha=>q_u E.out.2.1 E.out.2.2.2.1 (by rw [E.out.2.2.2.2.1,E.out.2.2.1]) ac h8 rfl (m_A hH hx) (ha.up ad.out.2.2.2.2)⟩;intro x v hv hn hx ho;rw [E.out.2.1] at hv;cases hv;refine ⟨?_,_,(a_n ac).trans rfl,?_⟩
   ·rw [a_U _ _ _ _ _ hn];exact M.block x hx (Ne.symm ho)
   ·intro e;have e':g8=x:=by simpa [Value.ownBlock] using e
    rcases U with h|h
    ·exact ho (by rw [h,e'])
    ·omega
  clear aA az av M h8 aw ac U;have aF:((N+1:Nat):Int) - 1=(N:Int):=by omega
  have aJ:wrap64 (N:Int)=(N:Int):=by have:=hl.out;unfold wrap64;omega
  go_wp2;exact bodyPost_ret (v:=.int .i64 (N:Int)) (by simp [results,Tryz.results98,go_sem,aF,aJ]) rfl ⟨rfl,HF.out⟩
theorem k_L (B J:Nat) (ns:List Nd) (p U:Option Addr) (n c R O:Nat) (dd H:List Int) (hd:RI dd) (w:World) (M:TapC w B J ns) (h1:Nums .i64 w (.slice p n c) dd) (h2:Nums .i64 w (.slice U R O) H) (D:512<=ns.length):
  Calls Tryz.prog 82 #[.pointer (some ⟨J,0,none⟩),.agg #[.slice p n c,.slice U R O]] w fun e V=>e = .returned (.tuple #[.int .i64 (f_J ns dd H),.int .i64 (f_I ns dd H)])/\TapC V B J (c_Q ns dd H)/\Below B w V/\Only SC w V/\Spar2 J w V:=by
 have aa:Hid (B<=w.heap.size):=Nat.le_trans M.1 (Nat.le_of_lt (by obtain ⟨_,_,_,hv,_⟩:=Tap.head M;exact a_i hv));have L:Hid (TapC w B J ns):=M;have HN:Hid (Nums .i64 w (.slice p n c) dd/\Nums .i64 w (.slice U R O) H/\RI dd):=⟨h1,h2,hd⟩
 have hf:decide (512<=ns.length)=true:=decide_eq_true D;have e1:f_I ns dd H=2:=if_pos D;have e2:f_J ns dd H=0:=if_neg fun h=>by omega
 have e3:c_Q ns dd H=ns:=if_neg fun h=>by omega
 rw [e1,e2,e3];clear M e1 e2 e3 h1 h2 hd D;go_enter Tryz.func82,Tryz.ntmps82;go_wp2_with fail
 generalize I:World.alloc _ _=W0;have E:=b_W (w:=w) I (by go_grown);have XA:Hid (Cel W0 w.heap.size (.slice p n c) (.slice U R O)):=a_F I (by simp [go_sem]);clear I;refine (c_e B J ns true hf W0 (L.out.up E.out)).mono ?_;rintro e w1 ⟨rfl,ab⟩;subst ab;clear hf;go_wp2;exact bodyPost_ret (v:=.tuple #[.int .i64 0,.int .i64 2]) (by simp [results,Tryz.results82,go_sem]) rfl ⟨rfl,L.out.up E.out,E.out.mono aa.out,Only.of E.out,Spar2.of E.out⟩
theorem m_B (B M:Nat) (ns:List Nd) (p V:Option Addr) (n c U O:Nat) (dd D:List Int) (hd:RI dd) (w:World) (hT:TapC w B M ns) (h1:Nums .i64 w (.slice p n c) dd) (h2:Nums .i64 w (.slice V U O) D) (I:ns.length < 512) (R:¬ isP dd D):
  Calls Tryz.prog 82 #[.pointer (some ⟨M,0,none⟩),.agg #[.slice p n c,.slice V U O]] w fun e w'=>e = .returned (.tuple #[.int .i64 (f_J ns dd D),.int .i64 (f_I ns dd D)])/\TapC w' B M (c_Q ns dd D)/\Below B w w'/\Only SC w w'/\Spar2 M w w':=by
 have ab:Hid (B<=w.heap.size):=Nat.le_trans hT.1 (Nat.le_of_lt (by obtain ⟨_,_,_,hv,_⟩:=Tap.head hT;exact a_i hv));have aa:Hid (TapC w B M ns):=hT;have HN:Hid (Nums .i64 w (.slice p n c) dd/\Nums .i64 w (.slice V U O) D/\RI dd):=⟨h1,h2,hd⟩
 have hf:decide (512<=ns.length)=false:=decide_eq_false (by omega);have hq:decide (isP dd D)=false:=decide_eq_false R;have e1:f_I ns dd D=1:=(if_neg (by omega)).trans (if_neg R);have e2:f_J ns dd D=0:=if_neg fun h=>R h.2;have e3:c_Q ns dd D=ns:=if_neg fun h=>R h.2;rw [e1,e2,e3];clear hT e1 e2 e3 h1 h2 hd I R;go_enter Tryz.func82,Tryz.ntmps82;go_wp2_with fail
 generalize J:World.alloc _ _=W0;have H:=b_W (w:=w) J (by go_grown);have XA:Hid (Cel W0 w.heap.size (.slice p n c) (.slice V U O)):=a_F J (by simp [go_sem]);clear J;refine (c_e B M ns false hf W0 (aa.out.up H.out)).mono ?_;rintro e w1 ⟨rfl,ac⟩;subst ac;clear hf;obtain ⟨a0,a1,_,_⟩:=XA.out;have k0:=a_a a0;go_wp2_with fail
 refine (a_C (.slice p n c) (.slice V U O) dd D HN.out.2.2 w1 (HN.out.1.up H.out) (HN.out.2.1.up H.out)).mono ?_;rintro e w2 ⟨rfl,L⟩;rw [hq];have E:=a_N (a_c H.out L) L;clear L;clear hq;go_wp2;exact bodyPost_ret (v:=.tuple #[.int .i64 0,.int .i64 1]) (by simp [results,Tryz.results82,go_sem]) rfl ⟨rfl,aa.out.up E.out.1,E.out.1.mono ab.out,Only.of E.out.1,Spar2.of E.out.1⟩
theorem k_M (B J:Nat) (ns:List Nd) (p p2:Option Addr) (n c n2 U:Nat) (dd E:List Int) (hd:RI dd) (w:World) (hT:TapC w B J ns) (h1:Nums .i64 w (.slice p n c) dd) (h2:Nums .i64 w (.slice p2 n2 U) E) (D:ns.length < 512) (V:isP dd E):
  Calls Tryz.prog 82 #[.pointer (some ⟨J,0,none⟩),.agg #[.slice p n c,.slice p2 n2 U]] w fun e w'=>e = .returned (.tuple #[.int .i64 (f_J ns dd E),.int .i64 (f_I ns dd E)])/\TapC w' B J (c_Q ns dd E)/\Below B w w'/\Only SC w w'/\Spar2 J w w':=by
 have R:Hid (B<=w.heap.size):=Nat.le_trans hT.1 (Nat.le_of_lt (by obtain ⟨_,_,_,hv,_⟩:=Tap.head hT;exact a_i hv));have af:Hid (TapC w B J ns):=hT;have HN:Hid (Nums .i64 w (.slice p n c) dd/\Nums .i64 w (.slice p2 n2 U) E/\RI dd):=⟨h1,h2,hd⟩
 have hf:decide (512<=ns.length)=false:=decide_eq_false (by omega);have hq:decide (isP dd E)=true:=decide_eq_true V;have HP:Hid (isP dd E/\ns.length < 512):=⟨V,D⟩
 have e1:f_I ns dd E=0:=(if_neg (by omega)).trans (if_pos V);have e2:f_J ns dd E=(ns.length:Int):=if_pos ⟨D,V⟩;have e3:c_Q ns dd E=ns++[⟨1,-1,-1,0,dd,E⟩]:=if_pos ⟨D,V⟩;rw [e1,e2,e3];clear hT e1 e2 e3 h1 h2 hd D V;go_enter Tryz.func82,Tryz.ntmps82;go_wp2_with fail
 generalize M:World.alloc _ _=W0;have L:=b_W (w:=w) M (by go_grown);have XA:Hid (Cel W0 w.heap.size (.slice p n c) (.slice p2 n2 U)):=a_F M (by simp [go_sem]);clear M;refine (c_e B J ns false hf W0 (af.out.up L.out)).mono ?_;rintro e w1 ⟨rfl,ag⟩;subst ag;clear hf;obtain ⟨a0,a1,_,_⟩:=XA.out;have k0:=a_a a0;go_wp2_with fail
 refine (a_C (.slice p n c) (.slice p2 n2 U) dd E HN.out.2.2 w1 (HN.out.1.up L.out) (HN.out.2.1.up L.out)).mono ?_;rintro e w2 ⟨rfl,O⟩;rw [hq];have H:=a_N (a_c L.out O) O;clear O;clear hq;replace a0:=a_d a0 H.out.2;replace a1:=a_d a1 H.out.2;replace k0:=a_a a0;go_wp2_with fail
 refine (f_M p p2 n c n2 U dd E HP.out.1 w2 (HN.out.1.up H.out.1) (HN.out.2.1.up H.out.1)).mono ?_;rintro e w3 ⟨v3,rfl,⟨s3,t3,rfl,hs,ht⟩,aa⟩;obtain ⟨pa,na,ca,rfl⟩:=hs.form_;obtain ⟨pb,nb,cb,rfl⟩:=ht.form_;have I:Hid (Below w.heap.size w w3):=a_c H.out.1 aa;have HO:Hid (OwnK .i64 3 w3 B (.slice pa na ca) dd/\OwnK .i64 23 w3 B (.slice pb nb cb) E/\OwnK .i64 3 w3 w.heap.size (.slice pa na ca) dd):=⟨hs.low (Nat.le_trans R.out H.out.1.size),ht.low (Nat.le_trans R.out H.out.1.size),hs.low H.out.1.size⟩
 clear hs ht aa a0 a1 k0;go_wp2_with fail
 refine (j_X B J ns ⟨1,-1,-1,0,dd,E⟩ pa pb na ca nb cb HP.out.2 w3 (af.out.up I.out) HO.out.1 HO.out.2.1).mono ?_;rintro e w4 ⟨rfl,ab,ae,ad,ac⟩;have HF:Hid (TapC w4 B J (ns++[⟨1,-1,-1,0,dd,E⟩])/\Below B w w4/\Only SC w w4/\Spar2 J w w4):=⟨ab,h_1 (I.out.mono R.out) ae,(Only.of I.out).trans ad,Spar2.kept I.out ac HO.out.2.2⟩
 clear ab ae ad ac HO;go_wp2;exact bodyPost_ret (v:=.tuple #[.int .i64 (ns.length:Int),.int .i64 0]) (by simp [results,Tryz.results82,go_sem]) rfl ⟨rfl,HF.out⟩
theorem j_Y (B E:Nat) (ns:List Nd) (hG:NodesG ns) (p I:Option Addr) (n c J H:Nat) (dd D:List Int) (U:RI dd) (hy:RI D) (w:World) (M:TapC w B E ns) (R:Nums .i64 w (.slice p n c) dd) (O:Nums .i64 w (.slice I J H) D):
  Calls Tryz.prog 82 #[.pointer (some ⟨E,0,none⟩),.agg #[.slice p n c,.slice I J H]] w fun e L=>e = .returned (.tuple #[.int .i64 (f_J ns dd D),.int .i64 (f_I ns dd D)])/\TapC L B E (c_Q ns dd D)/\Below B w L/\Only SC w L/\Spar2 E w L:=by
 by_cases hf:512<=ns.length
 ·exact k_L B E ns p I n c J H dd D U w M R O hf
 ·by_cases V:isP dd D
  ·exact k_M B E ns p I n c J H dd D U w M R O (by omega) V
  ·exact m_B B E ns p I n c J H dd D U w M R O (by omega) V
theorem NodesG.lyF {ns sts:List Nd} (h:NodesG ns) (D:∀ i,RI (stA sts i).X):∀ i,NodesG (lyF sts ns i).2.1
 | 0=>h
 | i+1=>by
  show NodesG (if (Wd.lyF sts ns i).1=0 then (lsE (Wd.lyF sts ns i).2.1 (stA sts i),lsN (Wd.lyF sts ns i).2.1 (stA sts i),lsR (Wd.lyF sts ns i).2.1 (stA sts i)) else Wd.lyF sts ns i).2.1
  split
  ·exact (NodesG.lyF h D i).ls (D i)
  ·exact NodesG.lyF h D i
theorem NodesG.lo {ns sts:List Nd} {e:Int} (h:NodesG ns) (D:∀ i,RI (stA sts i).X):NodesG (loN e ns sts):=by
 unfold loN
 split
 ·unfold lyM
  split
  ·exact NodesG.lyF h D _
  ·exact h
 ·exact h
theorem s_2 {N o:Int} {y:List Int} (D:RI y):∀ i,RI (stA (sqS N o y) i).X
 | 0=>D
 | 1=>b_M
 | 2=>b_M
 | 3=>b_M
 | _+4=>b_M
theorem s_3 {N o:Int} {y:List Int} (D:RI y):∀ i,RI (stA (szS N o y) i).X
 | 0=>D
 | 1=>b_M
 | 2=>b_M
 | 3=>b_M
 | _+4=>b_M
theorem m_C {m:Nat} {a c t:Int} (E:InR a) (H:InR t):RI (k_9 m a c t):=fun y D=>by
 rcases List.mem_or_eq_of_mem_set D with h|h
 ·rw [(List.mem_replicate.1 h).2];exact E
 ·rw [h];exact H
theorem s_4 {N o:Int} {n:Nat} {c:Int}:∀ i,RI (stA (hgS N o n c) i).X
 | 0=>m_C (by unfold InR;omega) (by unfold InR;omega)
 | 1=>m_C (by unfold InR;omega) (by unfold InR;omega)
 | 2=>b_M
 | 3=>b_M
 | 4=>b_M
 | 5=>b_M
 | 6=>b_M
 | 7=>b_M
 | 8=>b_M
 | _+9=>b_M
/-- A box that holds a tensor of one number. -/
def VBox (W:World) (b:Nat) (A:Int):Prop:=∃ s g c,W.heap[b]?=some (.cells #[s,.slice (some ⟨g,0,none⟩) 1 c] 64 (0,0))/\W.cell? ⟨g,0,none⟩=some (.int .i64 A)
theorem VBox.cells {W:World} {b:Nat} {A:Int} (h:VBox W b A):∃ g c,W.cell? ⟨b,1,none⟩=some (.slice (some ⟨g,0,none⟩) 1 c)/\W.cell? ⟨g,0,none⟩=some (.int .i64 A)/\b < W.heap.size/\g < W.heap.size:=by
 obtain ⟨s,g,c,E,D⟩:=h;exact ⟨g,c,by unfold World.cell?;simp [E],D,a_i E,a_a D⟩
theorem VBox.new {W:World} {B g c:Nat} {s:Value} {A:Int} (h:OwnK .i64 23 W B (.slice (some ⟨g,0,none⟩) 1 c) [A]):VBox (W.alloc (.cells #[s,.slice (some ⟨g,0,none⟩) 1 c] 64)) W.heap.size A:=
 ⟨s,g,c,heap_alloc_new _ _,a_d (h.cell rfl 0 (by decide)).1 (a_b _ _)⟩
end Go.Proofs.YtjlofobnmjompaaGreatDoor.Wd
