/- What a tape reckons, as the document's table has it: each Op's error, sides, numbers; what comes out is a tensor; numbers too far off are as any that is none. · A region that draws its order, cut into segments: what stands behind a cut waits for all ahead of it; in a segment at most one operation writes what stood (a call of any kind), the others read, call or make memory; each segment is walked once, in the order of the text. · What the document says of Leaf and Do over nodes, and that nodes stay tensors. · What losses lay on a tape, as the document has it: steps one behind the other, and wha -/
import Derived.Test.YtjlofobnmjompaaGreatDoorT01
import Derived.Test.YtjlofobnmjompaaGreatDoorT03
import Derived.Test.YtjlofobnmjompaaGreatDoorT09
import Derived.Test.YtjlofobnmjompaaGreatDoorT12
import Derived.Test.YtjlofobnmjompaaGreatDoorT13
import Derived.Test.YtjlofobnmjompaaGreatDoorT14
import Derived.Test.YtjlofobnmjompaaGreatDoorT15
import Derived.Test.YtjlofobnmjompaaGreatDoorT16
import Derived.Test.YtjlofobnmjompaaGreatDoorT11
set_option linter.unusedVariables false
set_option linter.unusedSimpArgs false
set_option maxHeartbeats 16000000
set_option maxRecDepth 16000
namespace Go.Proofs.YtjlofobnmjompaaGreatDoor.Wd
open Go.RowKit Fx
abbrev c_0 (op:Int):Prop:=op=2∨op=3∨op=4∨op=6∨op=12
abbrev byP (op:Int):Prop:=op=5∨op=8∨op=11∨op=12∨op=13
/-- The table. -/
def rkE (op:Int) (D X D' X':List Int) (k:Int):Int:=
 if op=2∨op=3∨op=4 then b_u D X D' X' else if op=5 then e_H D X else if op=6 then mE D X D' X' else if op=7 then flE D X else if op=8 then smE D X k
 else if op=9∨op=10 then k_B D X else if op=11 then f_2 k D X else if op=12 then rwE D X D' X' k else if op=13 then plE D X k else j_A D X [(X.length:Int)]
def rkD (op:Int) (D X D' X':List Int) (k:Int):List Int:=
 if op=2∨op=3∨op=4 then b_x D X D' X' else if op=5 then f_t D X else if op=6 then mD D X D' X' else if op=7 then flD D X else if op=8 then smD D X k
 else if op=9∨op=10 then [] else if op=11 then i_D k D X else if op=12 then rwD D X D' X' k else if op=13 then plD D X k else j_B D X [(X.length:Int)]
def rkV (op:Int) (D X D' X':List Int) (k:Int):List Int:=
 if op=2 then b_G (fun a b=>Fx.hold (a+b)) D X D' X' else if op=3 then b_G (fun a b=>Fx.hold (a - b)) D X D' X' else if op=4 then b_G Fx.mulI D X D' X' else if op=5 then f_u D X k else if op=6 then mV D X D' X' else if op=7 then flV D X else if op=8 then smV D X k
 else if op=9 then (if isP D X then [p_4 D X] else []) else if op=10 then (if isP D X then [f_Y D X] else []) else if op=11 then k_H k D X else if op=12 then rwV D X D' X' k else if op=13 then plV D X k else k_4 D X [(X.length:Int)]
/-- A tensor: its numbers are Go's. -/
def c_r (D X:List Int):Prop:=isP D X/\RI D/\RI X
theorem i_E {D:List Int} (h:goodN (ntl D)):RI D:=by
 have:=j_j h.le;rwa [l_e h.2.1] at this
theorem f_S {D X:List Int} (h:isP D X) (H:RI X):c_r D X:=⟨h,i_E h.1,H⟩
theorem f_E {J:List Nat} {X:List Int} (h:goodN J) (D:X.length=a_e J):isP (itl J) X:=by
 unfold isP;rw [a_o];exact ⟨h,D⟩
theorem c_z {α:Type} {l:List α} {f:α->Int} (h:∀ a,a∈l->InR (f a)):RI (l.map f):=fun y H=>by
 obtain ⟨a,D,rfl⟩:=List.mem_map.1 H;exact h a D
theorem d_d {x:List Int} (h:RI x) (i:Nat):InR (x.getD i 0):=by
 rcases Nat.lt_or_ge i x.length with D|D
 ·exact h.at i D
 ·rw [List.getD_eq_getElem?_getD,List.getElem?_eq_none D];show InR 0;unfold InR;omega
theorem h_W {op:Int->Int->Int} (O:∀ a b,InR (op a b)) {d x d' y:List Int} (h:b_u d x d' y=0):c_r (b_x d x d' y) (b_G op d x d' y):=by
 by_cases D:isP d x/\isP d' y
 ·by_cases H:b_w d d'=0
  ·obtain ⟨a,b,J,I⟩:=n_L D H;obtain ⟨_,L,M⟩:=I.E (op:=op);rw [L,M];exact f_S (f_E I.gJ (by simp)) (c_z fun i _=>O _ _)
  ·rw [(j_v (op:=op) D H).1] at h;exact absurd h H
 ·rw [(f_s (op:=op) D).1] at h;cases h
theorem m_l {d x:List Int} {k:Int} (h:e_H d x=0):c_r (f_t d x) (f_u d x k):=by
 unfold e_H at h;unfold f_t f_u;by_cases D:isP d x
 ·rw [if_pos D,if_pos D];exact f_S ⟨D.1,by rw [List.length_map];exact D.2⟩ (c_z fun i _=>e_T _ _)
 ·rw [if_neg D] at h;cases h
theorem r_S {k:Int} {d x:List Int} (H:RI x) (h:f_2 k d x=0):c_r (i_D k d x) (k_H k d x):=by
 unfold f_2 at h;unfold i_D k_H;by_cases D:(1<=k/\k<=5)/\isP d x
 ·rw [if_pos D,if_pos D];exact f_S ⟨D.2.1,by rw [List.length_map];exact D.2.2⟩ (c_z fun i I=>o_e (H i I))
 ·rw [if_neg D] at h;cases h
theorem s_3 {d x d':List Int} (I:RI x) (h:j_A d x d'=0):c_r (j_B d x d') (k_4 d x d'):=by
 unfold j_A at h;unfold j_B k_4;by_cases D:isP d x/\goodN (ntl d')
 ·rw [if_pos D] at h;by_cases H:a_e (ntl d')=x.length
  ·rw [if_pos ⟨D,H⟩,if_pos ⟨D,H⟩];exact f_S ⟨D.2,H.symm⟩ I
  ·rw [if_neg H] at h;cases h
 ·rw [if_neg D] at h;cases h
theorem p_c (v:Int):isP [] [v]:=by
 unfold isP;refine ⟨⟨by simp [ntl],fun y D=>by simp [ntl] at D,by simp [ntl,a_e]⟩,by simp [ntl,a_e]⟩
theorem r_T {d x:List Int} (v:Int) (H:InR v):c_r [] [v]:=f_S (p_c v) fun y D=>by
 simp at D;subst D;exact H
theorem o_g (d x:List Int):InR (p_4 d x):=by
 unfold p_4
 split
 ·exact hold_rng _
 ·unfold InR;omega
theorem m_m (d x:List Int):InR (f_Y d x):=by
 unfold f_Y f_X
 split
 ·exact hold_rng _
 ·unfold InR;omega
theorem t_z {d x:List Int} (R:RI x) (h:flE d x=0):c_r (flD d x) (flV d x):=by
 unfold flE at h;unfold flD flV;by_cases D:isP d x
 ·rw [if_pos D] at h;by_cases H:d.length=2
  ·rw [if_pos ⟨D,H⟩,if_pos ⟨D,H⟩];obtain ⟨J,I,rfl,U,M,L,O⟩:=a_X D H;show c_r [(I:Int),(J:Int)] (n_U J I x);refine f_S (l_V (by unfold n_U;simp [Nat.mul_comm]) L M (by rw [Nat.mul_comm];exact O)) ?_;unfold n_U;exact c_z fun i _=>d_d R _
  ·rw [if_neg H] at h;cases h
 ·rw [if_neg D] at h;cases h
theorem m_g {d x d' y:List Int} (h:mE d x d' y=0):c_r (mD d x d' y) (mV d x d' y):=by
 unfold mE at h;unfold mD mV;by_cases J:isP d x/\isP d' y
 ·rw [if_pos J] at h;by_cases D:mP d x d' y
  ·rw [if_pos D] at h;by_cases I:mG d d'
   ·rw [if_pos ⟨D,I⟩,if_pos ⟨D,I⟩];obtain ⟨A,C,rfl,_⟩:=a_X D.1.1 D.2.2.1;obtain ⟨L,E,rfl,_⟩:=a_X D.1.2 D.2.1;show c_r [(A:Int),(E:Int)] (s_C A C E x y);have H:=s_B.1 I;refine f_S (l_V (by unfold s_C;simp) H.1 H.2.1 H.2.2) ?_;unfold s_C;exact c_z fun i _=>by unfold t_x rnd;exact hold_rng _
   ·rw [if_neg I] at h;cases h
  ·rw [if_neg D] at h;cases h
 ·rw [if_neg J] at h;cases h
theorem t_G {d x:List Int} {D:Int} (h:smE d x D=0):c_r (smD d x D) (smV d x D):=by
 unfold smE at h;unfold smD smV;by_cases I:smP d x D
 ·rw [if_pos I,if_pos I];have J:=I.1.1
  have L:D.toNat < (ntl d).length:=by
   have:=I.2;rw [a_Q];omega
  have H:goodN (b_j (ntl d) D.toNat):=d_a J _ L;refine f_S (f_E H (by unfold o_6;simp)) ?_;unfold o_6;exact c_z fun i _=>by unfold s_D;exact hold_rng _
 ·rw [if_neg I] at h;cases h
theorem t_H {d x d' y:List Int} {st:Int} (h:rwE d x d' y st=0):c_r (rwD d x d' y st) (rwV d x d' y st):=by
 unfold rwE at h;unfold rwD rwV;by_cases D:rwA d x d' y st
 ·rw [if_pos D] at h;by_cases H:rwS d d'
  ·rw [if_pos H] at h;rw [if_pos ⟨D,H⟩,if_pos ⟨D,H⟩];unfold f_1 at h;by_cases I:goodN (ntl (rwO d d' st))
   ·unfold d_S;rw [if_pos I,if_pos I];obtain ⟨O,C,W,rfl,_⟩:=c_d D.2.1 H.2.1;refine f_S ⟨I,?_⟩ ?_
    ·rw [l_2];exact (c_k O _).symm
    ·unfold h_S;exact c_z fun i _=>by unfold l_1 rnd;exact hold_rng _
   ·rw [if_neg I] at h;cases h
  ·rw [if_neg H] at h;cases h
 ·rw [if_neg D] at h;cases h
theorem t_I {d x:List Int} {wd:Int} (U:RI x) (h:plE d x wd=0):c_r (plD d x wd) (plV d x wd):=by
 unfold plE at h;unfold plD plV;by_cases H:isP d x
 ·rw [if_pos H] at h;by_cases I:d.length=2
  ·rw [if_pos I] at h;by_cases J:plW d wd
   ·rw [if_pos ⟨H,I,J⟩,if_pos ⟨H,I,J⟩];obtain ⟨L,D,rfl,hl,R,h1,hm⟩:=a_X H I;have O:1<=wd/\wd<=(D:Int):=J;obtain ⟨W,rfl⟩:∃ W:Nat,wd=W:=⟨wd.toNat,by omega⟩
    show c_r [(L:Int),((D / W:Nat):Int)] (h_U L D (D / W) W x);have V:1<=D / W:=Nat.div_pos (by omega) (by omega);have M:L*(D / W)<=4096:=Nat.le_trans (Nat.mul_le_mul_left L (Nat.div_le_self D W)) hm;refine f_S (l_V (h_V _ _ _ _ _) R V M) ?_;unfold h_U;exact c_z fun i _=>d_d U _
   ·rw [if_neg J] at h;cases h
  ·rw [if_neg I] at h;cases h
 ·rw [if_neg H] at h;cases h
theorem t_J {op:Int} (R:2<=op) (U:op<=14) {D X M O:List Int} {k:Int} (L:RI X) (h:rkE op D X M O k=0):c_r (rkD op D X M O k) (rkV op D X M O k):=by
 have J:op=2∨op=3∨op=4∨op=5∨op=6∨op=7∨op=8∨op=9∨op=10∨op=11∨op=12∨op=13∨op=14:=by omega
 rcases J with rfl|rfl|rfl|rfl|rfl|rfl|rfl|rfl|rfl|rfl|rfl|rfl|rfl
 ·exact h_W (fun a b=>hold_rng _) h
 ·exact h_W (fun a b=>hold_rng _) h
 ·exact h_W (fun a b=>e_T a b) h
 ·exact m_l h
 ·exact m_g h
 ·exact t_z L h
 ·exact t_G h
 ·have H:isP D X:=by
   by_cases H:isP D X
   ·exact H
   ·have I:k_B D X=0:=h;unfold k_B at I;rw [if_neg H] at I;cases I
  show c_r [] (if isP D X then [p_4 D X] else []);rw [if_pos H];exact r_T (d:=D) (x:=X) _ (o_g D X)
 ·have H:isP D X:=by
   by_cases H:isP D X
   ·exact H
   ·have I:k_B D X=0:=h;unfold k_B at I;rw [if_neg H] at I;cases I
  show c_r [] (if isP D X then [f_Y D X] else []);rw [if_pos H];exact r_T (d:=D) (x:=X) _ (m_m D X)
 ·exact r_S L h
 ·exact t_H h
 ·exact t_I L h
 ·exact s_3 L h
end Go.Proofs.YtjlofobnmjompaaGreatDoor.Wd
namespace Go.Proofs.YtjlofobnmjompaaGreatDoor.Wd
open Go.RowKit
section
variable {P : Program} {ops : Array Oper} {Q : Exit -> Act -> World -> Prop}
/-- The first m of n have come up. -/
def i_F (n m:Nat):Array Bool:=Array.replicate m true++Array.replicate (n - m) false
theorem f_F {n m:Nat} (h:m<=n):(i_F n m).size=n:=by simp [i_F];omega
theorem f_G {n m j:Nat} (h:j < m) (b:Bool):(i_F n m).getD j b=true:=by
 simp [i_F,Array.getD_eq_getD_getElem?,Array.getElem?_append,h]
theorem d_e {n m j:Nat} (h:m<=j) (D:j < n) (b:Bool):(i_F n m).getD j b=false:=by
 simp [i_F,Array.getD_eq_getD_getElem?,Array.getElem?_append,Nat.not_lt.2 h,Array.getElem?_replicate];rw [if_pos (by omega)];rfl
theorem j_T {n m j:Nat} (h:m<=n) (D:n<=j) (b:Bool):(i_F n m).getD j b=b:=by
 simp [i_F,Array.getD_eq_getD_getElem?,Array.getElem?_append,Nat.not_lt.2 (Nat.le_trans h D),Array.getElem?_replicate];rw [if_neg (by omega)];rfl
theorem e_A {n m:Nat} (h:m<=n):(i_F n m).toList.count false=n - m:=by
 simp [i_F,List.count_replicate]
theorem q_l {n m:Nat} {l:Array Bool} (O:l.size=n) (U:m<=n) (M:∀ j,j < m->l.getD j false=true) (R:∀ j,m<=j->j < n->l.getD j true=false):l=i_F n m:=by
 refine Array.ext (by rw [O,f_F U]) fun j L H=>?_;have J:j < n:=by omega
 rcases Nat.lt_or_ge j m with c|c
 ·have D:=M j c;have I:=f_G (n:=n) c false;simp only [Array.getD_eq_getD_getElem?,Array.getElem?_eq_getElem L,Array.getElem?_eq_getElem H,Option.getD_some] at D I;rw [D,I]
 ·have D:=R j c J;have I:=d_e c J true;simp only [Array.getD_eq_getD_getElem?,Array.getElem?_eq_getElem L,Array.getElem?_eq_getElem H,Option.getD_some] at D I;rw [D,I]
/-- The region from operation number m on, in any order that it may take. -/
def e_I (P:Program) (ops:Array Oper) (Q:Exit->Act->World->Prop) (m:Nat) (a:Act) (w:World):Prop:=wpAny P .any ops Q (ops.size - m) (i_F ops.size m) a w
theorem d_O {id:Nat} {a:Act} {w:World} (D:P.follows .mixedOrders=true) (h:e_I P ops Q 0 a { w with drawn:=w.drawn+1 }):(Code.region id ops true).wp P Q a w:=by
 refine wp_region_any D ?_;unfold e_I at h;have:i_F ops.size 0=Array.replicate ops.size false:=by simp [i_F]
 rw [this,Nat.sub_zero] at h;exact h
/-- The rest is in the order of the text. -/
def r_U (ops:Array Oper) (m:Nat):Bool:=
 decide (m<=ops.size) && ((List.range ops.size).all fun i=>match ops[i]? with
  | none=>false
  | some o=>(o.after.all fun e=>!Region.binds .any e || decide (e.on < i)) && (List.range i).all fun j=>decide (j < m) || a_2 o j)
theorem f_H {a:Act} {w:World} (m:Nat) (O:r_U ops m=true) (h:wpList P ops Q (ops.toList.drop m) a w):e_I P ops Q m a w:=by
 simp only [r_U,Bool.and_eq_true,decide_eq_true_eq] at O;obtain ⟨R,D⟩:=O
 have hb:∀ i o,ops[i]?=some o->∀ e∈o.after,Region.binds .any e=true->e.on < i:=by
  intro i o H e he J;have:=List.all_eq_true.1 D i (List.mem_range.2 (Array.getElem?_eq_some_iff.1 H).1);simp only [H,Bool.and_eq_true] at this;have I:=Array.all_eq_true_iff_forall_mem.1 this.1 e he;simpa [J] using I
 have U:∀ i o,ops[i]?=some o->∀ j,m<=j->j < i->a_2 o j=true:=by
  intro i o H j M L;have:=List.all_eq_true.1 D i (List.mem_range.2 (Array.getElem?_eq_some_iff.1 H).1);simp only [H,Bool.and_eq_true] at this;have:=List.all_eq_true.1 this.2 j (List.mem_range.2 L);simp only [Bool.or_eq_true,decide_eq_true_eq] at this;rcases this with h|h
  ·omega
  ·exact h
 exact g_K hb U _ m _ a w (f_F R) (Nat.le_refl _) (e_A R) (fun j M=>f_G M false) (fun j I V=>d_e I V true) h
/-- A family of worlds of a class, which holds with each world all that keep what stood in it. -/
structure FamC (C:World->Prop) (F:World->World):Prop where
 cls:∀ d,C (F d)
 on:∀ d W,Below (F d).heap.size (F d) W->∃ d',W=F d'
theorem o_h {C:World->Prop} (D:∀ W W',C W->Below W.heap.size W W'->C W') {W:World} (h:C W):FamC C (e_K W):=
 ⟨fun d=>D _ _ h (a_W W d),fun d W' hb=>d_r ((a_W W d).trans (hb.mono (a_W W d).size))⟩
/-- What the one writing operation leaves. -/
def c_A (P:Program) (φ:Value->World->Prop) (W:World):Result Next->Prop
 | .ok (.value u) W'=>φ u W'
 | .ok .skip W'=>φ undef W'
 | .ok (.enter f args) W'=>W'=W/\Calls P f args W (fun e W''=>∃ v,e = .returned v/\φ v W'')
 | _=>False
def d_f (P:Program) (o:Oper) (a:Act) (W:World) (φ:Value->World->Prop):Prop:=c_A P φ W ((execOp a.eval o).run P W)
/-- The walk of a segment in the order of the text; operation number c is the one that may write (none, if c is not among the told). -/
def b_a (P:Program) (ops:Array Oper) (C:Bool->World->Prop) (T:World->World->Prop) (c:Nat) (ks:List Told) (x:Nat->Value) (G:Act):Nat->List Oper->Act->Prop
 | _,[],a=>a=G
 | i,o :: l,a=>match a_N ks i with
  | none=>∃ v,(∀ b F,FamC (C b) F->c_n ops ks o x F->if Region.wanted o (yielded ops a.tmps)=true then ∀ K:Act->Prop,K (a.put o.dst v)->o.quiet P a (fun W=>∃ d,W=F d) K else v=undef)/\b_a P ops C T c ks x G (i+1) l (a.put o.dst v)
  | some e=>(Region.wanted o (yielded ops a.tmps)=true/\(i≠c->∀ b F,FamC (C b) F->c_n ops ks o x F->∀ d,a_k P o a (F d) e.φ)/\(i=c->∀ W,C false W->c_n ops ks o x (fun _=>W)->d_f P o a W (fun v W'=>e.φ v W'/\C true W'/\T W W')))/\b_a P ops C T c ks x G (i+1) l (a.put (some e.t) (x e.k))
theorem q_m {a:Act} {t:Nat} {v:Value} (h:a.tmps.size<=t):a.put (some t) v=a:=by
 cases a;simp only at h;simp [Act.put,Array.setIfInBounds,Nat.not_lt.2 h]
/-- The slot that an operation writes; one beyond the frame's where it writes none (a store). -/
def dstOf (n:Nat) (o:Oper) (t:Tmp):Prop:=o.dst=some t∨(o.dst=none/\n<=t)
theorem dstOf.put {n:Nat} {o:Oper} {t:Tmp} (h:dstOf n o t) {a:Act} (H:a.tmps.size=n) (v:Value):a.put (some t) v=a.put o.dst v:=by
 rcases h with h|⟨h,D⟩
 ·rw [h]
 ·rw [h,q_m (by omega)];rfl
theorem f_I {C:Bool->World->Prop} {T:World->World->Prop} {c:Nat} {ks:List Told} {x:Nat->Value} {G:Act} {n:Nat}:∀ (l:List Oper) (i:Nat) (a:Act),a.tmps.size=n->(∀ j e,a_N ks (i+j)=some e->∀ o,l[j]?=some o->dstOf n o e.t)->b_a P ops C T c ks x G i l a->
  G.tmps.size=a.tmps.size/\G.defers=a.defers/\∀ t,t∉r_i l->G.tmps[t]?=a.tmps[t]?
 | [],i,a,_,_,h=>by
  obtain rfl:a=G:=h;exact ⟨rfl,rfl,fun _ _=>rfl⟩
 | o :: l,i,a,hn,hk,h=>by
  obtain ⟨v,L⟩:∃ v,b_a P ops C T c ks x G (i+1) l (a.put o.dst v):=by
   rw [b_a] at h
   split at h
   ·obtain ⟨v,_,D⟩:=h;exact ⟨v,D⟩
   ·rename_i e he
    have:=hk 0 e he o rfl;exact ⟨_,by rw [<- this.put hn];exact h.2⟩
  obtain ⟨J,D,R⟩:=f_I l (i+1) _ (by rw [a_J];exact hn) (fun j e he o O=>hk (j+1) e (by rw [show i+(j+1)=i+1+j by omega];exact he) o (by simpa using O)) L;refine ⟨by rw [J,a_J],by rw [D,b_s],fun t I=>?_⟩
  rw [R t (fun U=>I (by
   obtain ⟨x,M,H⟩:=List.mem_filterMap.1 U;exact List.mem_filterMap.2 ⟨x,List.mem_cons_of_mem _ M,H⟩)),a_6 (fun H=>I (List.mem_filterMap.2 ⟨o,List.mem_cons_self,H⟩))]
/-- What an operation yields in the last frame G. -/
def g_l (P:Program) (ops:Array Oper) (C:Bool->World->Prop) (T:World->World->Prop) (c:Nat) (ks:List Told) (x:Nat->Value) (G:Act) (i:Nat) (o:Oper):Prop:=
 match a_N ks i with
  | none=>∀ b F,FamC (C b) F->c_n ops ks o x F->(Region.wanted o (yielded ops G.tmps)=true/\∃ v,(∀ t,o.dst=some t->G.tmps[t]?=some v)/\∀ d,o.quietAt P G (fun W=>∃ d,W=F d) (F d) v)∨(Region.wanted o (yielded ops G.tmps)=false/\∀ t,o.dst=some t->G.tmps[t]?=some undef)
  | some e=>Region.wanted o (yielded ops G.tmps)=true/\(i≠c->∀ b F,FamC (C b) F->c_n ops ks o x F->∀ d,a_k P o G (F d) e.φ)/\(i=c->∀ W,C false W->c_n ops ks o x (fun _=>W)->d_f P o G W (fun v W'=>e.φ v W'/\C true W'/\T W W'))
theorem m_n {C:Bool->World->Prop} {T:World->World->Prop} {c:Nat} {ks:List Told} {x:Nat->Value} {G:Act} (n:Nat):∀ (l:List Oper) (i:Nat) (a:Act),a.tmps.size=n->(∀ o,o∈l->∀ cs b,o.op≠.select cs b)->c_8 ops n l=true->
  (∀ j e,a_N ks (i+j)=some e->∀ o,l[j]?=some o->dstOf n o e.t)->b_a P ops C T c ks x G i l a->∀ j o,l[j]?=some o->g_l P ops C T c ks x G (i+j) o
 | [],_,_,_,_,_,_,_,j,o,V=>by simp at V
 | o :: l,i,a,hn,hs,hl,hk,h,j,p,I=>by
  have ad:=f_I (o :: l) i a hn hk h;rw [c_8,Bool.and_eq_true,Bool.and_eq_true] at hl;obtain ⟨⟨J,O⟩,hl⟩:=hl
  have M:∀ t,t∈o.looksAt ops->G.tmps[t]?=a.tmps[t]?:=fun t L=>ad.2.2 t (fun hm=>by
   have:=List.all_eq_true.1 O t hm;simp at this;exact this L)
  have he:=c_a (ops:=ops) (hs o List.mem_cons_self) M;have hw:=b_z M;have R:∀ j e,a_N ks (i+1+j)=some e->∀ o,l[j]?=some o->dstOf n o e.t:=fun j e he o V=>hk (j+1) e (by rw [show i+(j+1)=i+1+j by omega];exact he) o (by simpa using V)
  have H:∀ v,b_a P ops C T c ks x G (i+1) l (a.put o.dst v)->∀ j p,(o :: l)[j+1]?=some p->g_l P ops C T c ks x G (i+(j+1)) p:=fun v hv j p I=>by
   have:=m_n n l (i+1) (a.put o.dst v) (by rw [a_J];exact hn) (fun o V=>hs o (List.mem_cons_of_mem _ V)) hl R hv j p (by simpa using I);rw [show i+(j+1)=i+1+j by omega];exact this
  have D:∀ v,b_a P ops C T c ks x G (i+1) l (a.put o.dst v)->∀ t,o.dst=some t->G.tmps[t]?=some v:=by
   intro v hv t L;rw [L] at J hv;simp at J;rw [(f_I l (i+1) _ (by rw [a_J];exact hn) R hv).2.2 t J.2,b_F (by rw [hn];exact J.1)]
  rw [b_a] at h;cases U:a_N ks i with
  | none=>
   rw [U] at h;obtain ⟨v,h1,h2⟩:=h;cases j with
   | succ j=>exact H v h2 j p I
   | zero=>
    simp only [List.getElem?_cons_zero,Option.some.injEq] at I;subst I;unfold g_l;rw [Nat.add_zero,U];intro b F hF hf;have h3:=h1 b F hF hf;by_cases c:Region.wanted o (yielded ops a.tmps)=true
    ·rw [if_pos c] at h3;obtain ⟨u,hu,hK⟩:=h3 (fun a'=>a'=a.put o.dst v) rfl
     left
     refine ⟨hw.trans c,u,?_,fun d=>?_⟩
     ·intro t L;rw [D v h2 t L];rw [L] at hK J;simp at J;have e1:(a.put (some t) u).tmps[t]?=(a.put (some t) v).tmps[t]?:=congrArg (fun a=>a.tmps[t]?) hK;rw [b_F (by rw [hn];exact J.1),b_F (by rw [hn];exact J.1)] at e1;exact e1.symm
     ·have:=hu _ ⟨d,rfl⟩;unfold Oper.quietAt at *;rw [he];exact this
    ·rw [if_neg c] at h3
     right
     refine ⟨hw.trans (by simpa using c),fun t L=>?_⟩;rw [D v h2 t L,h3]
  | some e=>
   rw [U] at h;have ab:=hk 0 e U o rfl;cases j with
   | succ j=>exact H (x e.k) (by rw [<- ab.put hn];exact h.2) j p I
   | zero=>
    simp only [List.getElem?_cons_zero,Option.some.injEq] at I;subst I;unfold g_l;rw [Nat.add_zero,U];obtain ⟨g1,g2,g3⟩:=h.1;refine ⟨hw.trans g1,fun aa b F hF hf d=>?_,fun ac W hW hf=>?_⟩
    ·have:=g2 aa b F hF hf d;unfold a_k at *;rw [he];exact this
    ·have:=g3 ac W hW hf;unfold d_f at *;rw [he];exact this
/-- The shape of the segment from k to m: what stands from m on waits for all of it. -/
def s_E (ops:Array Oper) (k m:Nat):Bool:=
 decide (m<=ops.size) && Region.noSelect ops &&
 ((List.range ops.size).all fun i=>match ops[i]? with
  | none=>false
  | some o=>(o.after.all fun e=>!Region.binds .any e || decide (e.on < i)) && (decide (i<=m) || (List.range i).any fun j=>decide (m<=j) && a_2 o j)) &&
 (decide (ops.size<=m) || (List.range m).all fun j=>decide (j < k) || (List.range (m+1)).any fun n=>decide (j < n) && match ops[n]? with
  | none=>false
  | some o=>a_2 o j) &&
 ((List.range m).all fun i=>decide (i < k) || match ops[i]? with
  | none=>false
  | some o=>(List.range m).all fun j=>decide (j < k) || match (ops[j]?).bind (·.dst) with
   | none=>true
   | some t=>(!(o.looksAt ops).contains t || a_2 o j) && (i==j || o.dst != some t))
/-- Each told operation is in the segment and writes the slot that it names; no two of them write one slot. -/
def o_i (ops:Array Oper) (ks:List Told) (k m n:Nat):Bool:=
 (ks.all fun e=>decide (k<=e.k) && decide (e.k < m) && (decide (e.t < n) && (((ops[e.k]?).bind (·.dst))==some e.t) || decide (n<=e.t) && (((ops[e.k]?).bind (·.dst))==none) && ops.toList.all fun o=>!(o.looksAt ops).contains e.t)) && decide (ks.map (·.t)).Nodup && decide (ks.map (·.k)).Nodup
structure InvS (ops:Array Oper) (C:Bool->World->Prop) (c:Nat) (ks:List Told) (k m:Nat) (G:Act) (listed:Array Bool) (s:Act) (W:World) (x:Nat->Value):Prop where
 size:listed.size=ops.size
 done:∀ j,j < k->listed.getD j false=true
 head:∀ j,m<=j->j < ops.size->listed.getD j true=false
 fsize:s.tmps.size=G.tmps.size
 fdef:s.defers=G.defers
 slot:∀ t,(∀ j o,k<=j->j < m->ops[j]?=some o->o.dst=some t->listed.getD j false=true)->s.tmps[t]?=G.tmps[t]?
 cls:C (listed.getD c false) W
 told:∀ e,e∈ks->listed.getD e.k false=true->e.φ (x e.k) W
 closed:∀ j o,ops[j]?=some o->listed.getD j false=true->∀ e∈o.after,Region.binds .any e=true->listed.getD e.on false=true
theorem InvS.all {C:Bool->World->Prop} {c:Nat} {W:World} {ks:List Told} {k m:Nat} {G s:Act} {D:Array Bool} {x:Nat->Value} (J:InvS ops C c ks k m G D s W x) (h:∀ j,j < m->D.getD j false=true):s=G:=by
 have H:s.tmps=G.tmps:=Array.ext_getElem? fun t=>J.slot t fun j _ _ L _ _=>h j L;have I:=J.fdef;cases s;cases G;simp only at H I;rw [H,I]
theorem q_n {C:Bool->World->Prop} {T:World->World->Prop} {c:Nat} {ks:List Told} {k m n:Nat} {G:(Nat->Value)->Act} {G0:Act} (hB:s_E ops k m=true) (hK:o_i ops ks k m n=true) (be:k<=m)
  (hC:∀ b W W',C b W->Below W.heap.size W W'->C b W')
  (a2:(∃ e,e∈ks/\e.k=c)∨m<=c)
  (hφ:∀ e,e∈ks->∀ v W W',e.φ v W->Below W.heap.size W W'->e.φ v W')
  (hT:∀ e,e∈ks->e.k≠c->∀ v W W',e.φ v W->C false W->T W W'->e.φ v W')
  (hG:∀ x,G x=b_n ks x G0) (hn:G0.tmps.size=n)
  (aY:∀ x i o,k<=i->i < m->ops[i]?=some o->g_l P ops C T c ks x (G x) i o)
  (ht:∀ W x,C (decide (c < m)) W->(∀ e,e∈ks->e.φ (x e.k) W)->e_I P ops Q m (G x) W):
  ∀ (fuel:Nat) (D:Array Bool) (s:Act) (W:World) (x:Nat->Value),D.toList.count false=fuel->InvS ops C c ks k m (G x) D s W x->wpAny P .any ops Q fuel D s W:=by
 simp only [s_E,Bool.and_eq_true,decide_eq_true_eq] at hB;obtain ⟨⟨⟨⟨hm,aW⟩,aq⟩,ax⟩,hX⟩:=hB;simp only [o_i,Bool.and_eq_true,decide_eq_true_eq] at hK;obtain ⟨⟨hK,a8⟩,a6⟩:=hK
 have aG:∀ e,e∈ks->(k<=e.k/\e.k < m)/\((e.t < n/\(ops[e.k]?).bind (·.dst)=some e.t)∨((n<=e.t/\(ops[e.k]?).bind (·.dst)=none)/\∀ o,o∈ops->(o.looksAt ops).contains e.t=false)):=by
  intro e he;have:=List.all_eq_true.1 hK e he;simp only [Bool.and_eq_true,Bool.or_eq_true,decide_eq_true_eq,beq_iff_eq] at this;refine ⟨this.1,this.2.imp id fun h=>⟨h.1,fun o M=>?_⟩⟩;have:=List.all_eq_true.1 h.2 o (Array.mem_toList_iff.2 M);simpa using this
 have hb:∀ i o,ops[i]?=some o->∀ e∈o.after,Region.binds .any e=true->e.on < i:=by
  intro i o M e he a4;have:=List.all_eq_true.1 aq i (List.mem_range.2 (Array.getElem?_eq_some_iff.1 M).1);simp only [M,Bool.and_eq_true] at this;have R:=Array.all_eq_true_iff_forall_mem.1 this.1 e he;simpa [a4] using R
 have a9:∀ i o,ops[i]?=some o->m < i->∃ j,m<=j/\j < i/\a_2 o j=true:=by
  intro i o M hj;have:=List.all_eq_true.1 aq i (List.mem_range.2 (Array.getElem?_eq_some_iff.1 M).1);simp only [M,Bool.and_eq_true] at this;have:=this.2;simp only [Bool.or_eq_true,decide_eq_true_eq] at this;rcases this with h|h
  ·omega
  ·obtain ⟨j,a1,aH⟩:=List.any_eq_true.1 h;simp only [Bool.and_eq_true,decide_eq_true_eq] at aH;exact ⟨j,aH.1,List.mem_range.1 a1,aH.2⟩
 have hS:m < ops.size->∀ j,k<=j->j < m->∃ n o,j < n/\n<=m/\ops[n]?=some o/\a_2 o j=true:=by
  intro an j ad hj;rw [Bool.or_eq_true] at ax;rcases ax with h|h
  ·simp at h;omega
  ·have h0:=List.all_eq_true.1 h j (List.mem_range.2 hj);rw [Bool.or_eq_true] at h0;rcases h0 with h0|h0
   ·simp at h0;omega
   ·obtain ⟨n,hk,R⟩:=List.any_eq_true.1 h0;simp only [Bool.and_eq_true,decide_eq_true_eq] at R;have aN:n < ops.size:=by have:=List.mem_range.1 hk;omega
    have M:ops[n]?=some ops[n]:=Array.getElem?_eq_getElem aN;rw [M] at R;exact ⟨n,_,R.1,by have:=List.mem_range.1 hk;omega,M,R.2⟩
 have aR:∀ i o,k<=i->i < m->ops[i]?=some o->∀ j t,k<=j->j < m->(ops[j]?).bind (·.dst)=some t->(t∈o.looksAt ops->a_2 o j=true)/\(i≠j->o.dst≠some t):=by
  intro i o ay hi M j t ad hj hd;have h0:=List.all_eq_true.1 hX i (List.mem_range.2 hi);rw [Bool.or_eq_true] at h0;have h0:_:=h0.resolve_left (by simp;omega);simp only [M] at h0;have R:=List.all_eq_true.1 h0 j (List.mem_range.2 hj);rw [Bool.or_eq_true] at R;have this:=R.resolve_left (by simp;omega);simp only [hd,Bool.and_eq_true,Bool.or_eq_true,bne_iff_ne,beq_iff_eq,Bool.not_eq_true',List.contains_eq_mem,decide_eq_false_iff_not] at this;refine ⟨fun hl=>?_,fun ao=>?_⟩
  ·rcases this.1 with h|h
   ·exact absurd hl h
   ·exact h
  ·rcases this.2 with h|h
   ·exact absurd h ao
   ·exact h
 have U:∀ x,(G x).tmps.size=n:=fun x=>by rw [hG,e_r];exact hn
 have a7:∀ x e,e∈ks->e.t < n->(G x).tmps[e.t]?=some (x e.k):=fun x e he an=>by
  rw [hG];exact g_L x ks G0 a8 e he (by rw [hn];exact an)
 have aj:∀ (D:Array Bool) (s:Act) (W:World) (x:Nat->Value),InvS ops C c ks k m (G x) D s W x->(∀ j,j < m->D.getD j false=true)->wpAny P .any ops Q (D.toList.count false) D s W:=by
  intro D s W x H I;have hs:=H.all I;have hl:=q_l H.size hm I H.head
  have aK:D.getD c false=decide (c < m):=by
   rw [hl];rcases Nat.lt_or_ge c m with h|h
   ·rw [f_G h];simp [h]
   ·have:decide (c < m)=false:=by simp;omega
    rw [this];rcases Nat.lt_or_ge c ops.size with h'|h'
    ·exact d_e h h' _
    ·exact j_T hm h' _
  have h:=ht W x (by rw [<- aK];exact H.cls) (fun e he=>H.told e he (I _ (aG e he).1.2));unfold e_I at h;rw [hl,e_A hm,hs];exact h
 intro fuel
 induction fuel with
 | zero=>
  intro D s W x hc H;have I:∀ j,j < m->D.getD j false=true:=fun j hj=>d_0 (by rw [H.size];omega) (b_t hc j);have:=aj D s W x H I;rw [hc] at this;exact this
 | succ fuel ih=>
  intro D s W x hc H
  refine ⟨fun hr=>by
   obtain ⟨i,hi⟩:=d_s hc;exact absurd hr (c_K H.size hb i hi),fun i hi=>?_⟩
  obtain ⟨ak,o,M,I⟩:=mem_ready.1 hi;have aU:i < ops.size:=(Array.getElem?_eq_some_iff.1 M).1
  have ay:k<=i:=by
   rcases Nat.lt_or_ge i k with h|h
   ·have R:=H.done i h;have h2:=(b_l ak).2;rw [R] at h2;cases h2
   ·exact h
  rcases Nat.lt_or_ge i m with aA|aA
  ·have aD:∀ t,t∈o.looksAt ops->s.tmps[t]?=(G x).tmps[t]?:=fun t ae=>
    H.slot t fun j oj ad hj ac hd=>a_q ((aR i o ay aA M j t ad hj (by rw [ac];exact hd)).1 ae) I
   have he:=c_a (ops:=ops) (Region.noSelect_spec aW i o · · M) aD;have aJ:=b_z aD
   have af:∀ e,e∈ks->(o.looksAt ops).contains e.t=true->D.getD e.k false=true:=fun e O ae=>by
    obtain ⟨R,⟨_,h3⟩|h3⟩:=aG e O
    ·exact a_q ((aR i o ay aA M e.k e.t R.1 R.2 h3).1 (by simpa using ae)) I
    ·have:=h3.2 o (Array.mem_of_getElem? M);rw [ae] at this;cases this
   have ar:c_n ops ks o x (e_K W):=fun e O ae d=>hφ e O _ _ _ (H.told e O (af e O ae)) (a_W W d);have ah:=aY x i o ay aA M;unfold g_l at ah;have aQ:=o_h (hC (D.getD c false)) H.cls;obtain ⟨d0,aZ⟩:=d_r (Below.refl W.heap.size W)
   have aw:∀ e,e∈ks->e.k≠i->(D.setIfInBounds i true).getD e.k false=true->D.getD e.k false=true:=fun e _ ao h=>by
    rw [getD_set_ne false (Ne.symm ao)] at h;exact h
   have au:∀ j,j < k->(D.setIfInBounds i true).getD j false=true:=fun j hj=>by rw [getD_set_ne false (by omega)];exact H.done j hj
   unfold wpOp;simp only [M];cases ap:a_N ks i with
   | none=>
    rw [ap] at ah;have ah:=ah _ _ aQ ar;have aX:=d_M ap
    have a0:i≠c:=by
     rcases a2 with ⟨e,a5,bc⟩|h
     ·rw [<- bc];exact fun h=>aX e a5 h.symm
     ·omega
    have V:∀ (v:Value) (W':World),(∀ t,o.dst=some t->(G x).tmps[t]?=some v)->Below W.heap.size W W'->wpAny P .any ops Q fuel (D.setIfInBounds i true) (s.put o.dst v) W':=by
     intro v W' hv aO;refine ih _ _ W' x (a_0 ak hc) ⟨by simpa using H.size,au,fun j hj aF=>by rw [getD_set_ne true (by omega)];exact H.head j hj aF,by rw [a_J];exact H.fsize,by rw [b_s];exact H.fdef,fun t ai=>?_,by rw [getD_set_ne false a0];exact hC _ _ _ H.cls aO,fun e O hl=>hφ e O _ _ _ (H.told e O (aw e O (aX e O) hl)) aO,b_A M I H.closed⟩;by_cases hd:o.dst=some t
     ·rw [hv t hd,hd];exact b_F (by rw [H.fsize];exact (Array.getElem?_eq_some_iff.1 (hv t hd)).1)
     ·rw [a_6 hd];refine H.slot t fun j oj ad hj ac av=>?_;have:=ai j oj ad hj ac av;by_cases c:i=j
      ·subst c;rw [M] at ac;cases ac;exact absurd av hd
      ·rw [getD_set_ne false c] at this;exact this
    rcases ah with ⟨hw,v,hv,hq⟩|⟨hw,hu⟩
    ·rw [if_pos (aJ.trans hw)]
     left
     have hq:=hq d0;rw [<- aZ] at hq;unfold Oper.wp;unfold Oper.quietAt at hq;rw [he];generalize (execOp (G x).eval o).run P W=r at hq;cases r with
     | halt x w'=>exact hq.elim
     | ok n w'=>
      cases n <;> simp only [Oper.quietUpon] at hq <;> simp only [Oper.upon]
      case value u=>
       obtain ⟨e1,e2⟩:=hq;rw [e1,e2];exact V v W hv (Below.refl _ _)
      case skip=>
       obtain ⟨e1,e2⟩:=hq;rw [e1,<- e2];exact V v W hv (Below.refl _ _)
      case enter f args=>
       obtain ⟨e1,hc⟩:=hq;rw [e1];exact hc.mono fun e az ⟨he,d,aV⟩=>by subst he;rw [aV];exact V v _ hv (a_W W d)
    ·rw [if_neg (by rw [aJ,hw];exact Bool.false_ne_true)];exact V undef W hu (Below.refl _ _)
   | some e=>
    rw [ap] at ah;obtain ⟨O,ba⟩:=c_b ap;subst ba
    have ag:(e.t < n/\o.dst=some e.t)∨(n<=e.t/\o.dst=none):=by
     have:=(aG e O).2;rw [M] at this;exact this.imp id fun h=>h.1
    have aC:∀ J,J∈ks->J.k=e.k->J=e:=fun J aa hk=>by
     have R:=d_t ks a6 J aa;rw [hk,ap] at R;exact (Option.some.inj R).symm
    have V:∀ (v:Value) (W':World),e.φ v W'->C ((D.setIfInBounds e.k true).getD c false) W'->(∀ J,J∈ks->J.k≠e.k->∀ u,D.getD J.k false=true->J.φ u W->J.φ u W')->wpAny P .any ops Q fuel (D.setIfInBounds e.k true) (s.put o.dst v) W':=by
     intro v W' hv aP aE;refine ih _ _ W' (upd x e.k v) (a_0 ak hc) ⟨by simpa using H.size,au,fun j hj aF=>by rw [getD_set_ne true (by omega)];exact H.head j hj aF,by rw [a_J,H.fsize,U,U],by rw [b_s,H.fdef,hG,hG,b_O,b_O],fun t ai=>?_,aP,fun J ab hl=>?_,b_A M I H.closed⟩
     ·by_cases hd:o.dst=some t
      ·rw [hd];rcases ag with ⟨an,ag⟩|⟨_,ag⟩
       case inr=>rw [ag] at hd;cases hd
       obtain rfl:e.t=t:=by rw [ag] at hd;exact Option.some.inj hd
       rw [a7 _ e O an,b_F (by rw [H.fsize,U];exact an)];show some v=some (if e.k=e.k then v else x e.k);rw [if_pos rfl]
      ·by_cases aI:n<=t
       ·rw [a_6 hd,Array.getElem?_eq_none (by rw [H.fsize,U];exact aI),Array.getElem?_eq_none (by rw [U];exact aI)]
       rw [a_6 hd,hG,d_2 x e.k v t ks G0 G0 rfl rfl (fun J aa aN hh=>by
        have aS:e.t=t:=by rw [<- aC J aa aN];exact hh
        rcases ag with ⟨_,ag⟩|⟨bb,_⟩
        ·exact hd (by rw [ag,aS])
        ·exact aI (aS ▸ bb)),<- hG]
       refine H.slot t fun j oj ad hj ac av=>?_;have:=ai j oj ad hj ac av;by_cases c:e.k=j
       ·subst c;rw [M] at ac;cases ac;exact absurd av hd
       ·rw [getD_set_ne false c] at this;exact this
     ·by_cases c:J.k=e.k
      ·obtain rfl:=aC J ab c;show J.φ (if J.k=J.k then v else x J.k) W';rw [if_pos rfl];exact hv
      ·show J.φ (if J.k=e.k then v else x J.k) W';rw [if_neg c];have aB:=aw J ab c hl;exact aE J ab c _ aB (H.told J ab aB)
    obtain ⟨hw,hy,hz⟩:=ah;rw [if_pos (aJ.trans hw)]
    left
    by_cases am:e.k=c
    ·have aK:D.getD c false=false:=by rw [<- am];exact (b_l ak).2
     have aM:=H.cls;rw [aK] at aM;have hy:=hz am W aM (fun J ab ae _=>H.told J ab (af J ab ae))
     have a3:(D.setIfInBounds e.k true).getD c false=true:=by
      rw [am] at ak ⊢;have:=(b_l ak).1;simp [this]
     have L:∀ (v:Value) (W':World),(e.φ v W'/\C true W'/\T W W')->wpAny P .any ops Q fuel (D.setIfInBounds e.k true) (s.put o.dst v) W':=fun v W' ⟨R,h2,h3⟩=>
      V v W' R (by rw [a3];exact h2) (fun J aa ao u _ hu=>hT J aa (by rw [<- am];exact ao) u W W' hu aM h3)
     unfold Oper.wp;unfold d_f at hy;rw [he];generalize (execOp (G x).eval o).run P W=r at hy;cases r with
     | halt x w'=>exact hy.elim
     | ok n w'=>
      cases n <;> simp only [c_A] at hy <;> simp only [Oper.upon]
      case value u=>exact L u w' hy
      case skip=>exact L undef w' hy
      case enter f args=>
       obtain ⟨e1,hc⟩:=hy;rw [e1];exact hc.mono fun J az ⟨v,aa,R⟩=>by subst aa;exact L v az R
    ·have hy:=hy am _ _ aQ ar d0;rw [<- aZ] at hy
     have L:∀ (v:Value) (W':World),e.φ v W'->Below W.heap.size W W'->wpAny P .any ops Q fuel (D.setIfInBounds e.k true) (s.put o.dst v) W':=fun v W' R h2=>
      V v W' R (by rw [getD_set_ne false am];exact hC _ _ _ H.cls h2) (fun J aa _ u _ hu=>hφ J aa u W W' hu h2)
     unfold Oper.wp;unfold a_k at hy;rw [he];generalize (execOp (G x).eval o).run P W=r at hy;cases r with
     | halt x w'=>exact hy.elim
     | ok n w'=>
      cases n <;> simp only [a_g] at hy <;> simp only [Oper.upon]
      case value u=>exact L u w' hy.1 hy.2
      case skip=>exact L undef w' hy.1 hy.2
      case enter f args=>
       obtain ⟨e1,hc⟩:=hy;rw [e1];exact hc.mono fun J az ⟨v,aa,R,h2⟩=>by subst aa;exact L v az R h2
  ·obtain rfl:i=m:=by
    rcases Nat.lt_or_ge m i with c|c
    ·obtain ⟨j,h0,R,h2⟩:=a9 i o M c;have h3:=a_q h2 I;have h4:=(b_l (H.head j h0 (by omega))).2;rw [h3] at h4;cases h4
    ·omega
   have hl:∀ d j,i - j=d->k<=j->j < i->D.getD j false=true:=by
    intro d
    induction d using Nat.strongRecOn with
    | _ d ihd=>
     intro j hd ad hj;obtain ⟨n,on,bd,hn,aL,aT⟩:=hS aU j ad hj;rcases Nat.lt_or_ge n i with c|c
     ·have:=ihd (i - n) (by omega) n rfl (by omega) c;exact a_q aT (H.closed n on aL this)
     ·obtain rfl:n=i:=by omega
      rw [M] at aL;cases aL;exact a_q aT I
   have aB:∀ j,j < i->D.getD j false=true:=fun j hj=>by
    rcases Nat.lt_or_ge j k with c|c
    ·exact H.done j c
    ·exact hl (i - j) j rfl c hj
   have h:=aj D s W x H aB;rw [hc] at h;exact h.2 i hi
/-- THE LAW of one segment, from k to m. -/
theorem seg {a:Act} {w:World} {l:List Oper} (C:Bool->World->Prop) (T:World->World->Prop) (c:Nat) (ks:List Told) (k m n:Nat) (hn:a.tmps.size=n) (M:l=(ops.toList.drop k).take (m - k)) (hB:(decide (k<=m) && s_E ops k m && c_8 ops n l)=true) (hK:o_i ops ks k m n=true)
  (hC:∀ b W W',C b W->Below W.heap.size W W'->C b W') (hw:C false w)
  (ac:(∃ e,e∈ks/\e.k=c)∨m<=c)
  (hφ:∀ e,e∈ks->∀ v W W',e.φ v W->Below W.heap.size W W'->e.φ v W')
  (hT:∀ e,e∈ks->e.k≠c->∀ v W W',e.φ v W->C false W->T W W'->e.φ v W')
  (h:∃ G:(Nat->Value)->Act,(∀ x,b_a P ops C T c ks x (G x) k l a)/\(∀ x,G x=b_n ks x (G fun _=>undef))/\
   ∀ W x,C (decide (c < m)) W->(∀ e,e∈ks->e.φ (x e.k) W)->e_I P ops Q m (G x) W):e_I P ops Q k a w:=by
 obtain ⟨G,h1,h2,h3⟩:=h;simp only [Bool.and_eq_true,decide_eq_true_eq] at hB;obtain ⟨⟨H,ah⟩,ab⟩:=hB;have L:=ah;simp only [s_E,Bool.and_eq_true,decide_eq_true_eq] at L;have O:=L.1.1.1.1;have aa:=hK;simp only [o_i,Bool.and_eq_true,decide_eq_true_eq] at aa
 have ad:∀ e,e∈ks->k<=e.k/\e.k < m:=fun e V=>by
  have:=List.all_eq_true.1 aa.1.1 e V;simp only [Bool.and_eq_true,Bool.or_eq_true,decide_eq_true_eq,beq_iff_eq] at this;exact this.1
 have R:∀ j,k+j < m->l[j]?=ops[k+j]?:=by
  intro j I;rw [M,List.getElem?_take_of_lt (by omega),List.getElem?_drop];simp
 have hk:∀ j e,a_N ks (k+j)=some e->∀ o,l[j]?=some o->dstOf n o e.t:=by
  intro j e he o D;obtain ⟨V,ae⟩:=c_b he;have:=List.all_eq_true.1 aa.1.1 e V;simp only [Bool.and_eq_true,Bool.or_eq_true,decide_eq_true_eq,beq_iff_eq] at this;rw [R j (by rw [<- ae];exact this.1.2)] at D;have h4:=this.2;rw [ae,D] at h4;exact h4.imp (fun h=>h.2) fun h=>⟨h.1.2,h.1.1⟩
 have af:∀ o,o∈l->∀ cs b,o.op≠.select cs b:=by
  intro o D cs b;rw [M] at D;obtain ⟨j,I,e⟩:=List.getElem_of_mem (List.mem_of_mem_drop (List.mem_of_mem_take D));exact Region.noSelect_spec L.1.1.1.2 j o cs b (by rw [<- e];simp at I ⊢)
 have aj:∀ x,(G x).tmps.size=n:=fun x=>by rw [(f_I l k a hn hk (h1 x)).1,hn]
 have U:=f_I l k a hn hk (h1 fun _=>undef);unfold e_I;refine q_n (C:=C) (T:=T) (c:=c) (ks:=ks) (k:=k) (m:=m) (n:=n) (G:=G) (G0:=G fun _=>undef) ah hK H hC ac hφ hT h2 (aj _) (fun x i o aq hi D=>?_) h3 _ _ _ _ (fun _=>undef) ?_ ⟨f_F (Nat.le_trans H O),fun j I=>f_G I _,fun j I ai=>d_e (Nat.le_trans H I) ai _,U.1.symm,U.2.1.symm,fun t hc=>?_,?_,fun e he M=>?_,fun j o D M e he ak=>?_⟩
 ·have:=m_n n l k a hn af ab hk (h1 x) (i - k) o (by rw [R (i - k) (by omega),show k+(i - k)=i by omega];exact D);rw [show k+(i - k)=i by omega] at this;exact this
 ·exact e_A (Nat.le_trans H O)
 ·refine (U.2.2 t fun an=>?_).symm;obtain ⟨o,D,hd⟩:=List.mem_filterMap.1 an;obtain ⟨j,I,e⟩:=List.getElem_of_mem D;have ar:j < m - k:=by rw [M] at I;simp at I;omega
  have ag:ops[k+j]?=some o:=by rw [<- R j (by omega),List.getElem?_eq_getElem I,e]
  have J:k+j < ops.size:=(Array.getElem?_eq_some_iff.1 ag).1;have:=hc (k+j) o (by omega) (by omega) ag hd;rw [d_e (by omega) J] at this;cases this
 ·have:(i_F ops.size k).getD c false=false:=by
   have ao:k<=c:=by
    rcases ac with ⟨e,am,ap⟩|h
    ·rw [<- ap];exact (ad e am).1
    ·omega
   rcases Nat.lt_or_ge c ops.size with h|h
   ·exact d_e ao h _
   ·exact j_T (Nat.le_trans H O) h _
  rw [this];exact hw
 ·obtain ⟨h4,h5⟩:=ad e he;rw [d_e h4 (by omega)] at M;cases M
 ·have J:j < ops.size:=(Array.getElem?_eq_some_iff.1 D).1
  have au:j < k:=by
   rcases Nat.lt_or_ge j k with h|h
   ·exact h
   ·rw [d_e h J] at M;cases M
  have h6:=List.all_eq_true.1 L.1.1.2 j (List.mem_range.2 J);simp only [D,Bool.and_eq_true] at h6;have h7:=Array.all_eq_true_iff_forall_mem.1 h6.1 e he;have h8:e.on < j:=by simpa [ak] using h7
  exact f_G (by omega) _
theorem b_Q {C:Bool->World->Prop} {T:World->World->Prop} {c:Nat} {ks:List Told} {x:Nat->Value} {G a:Act} {i:Nat} {o:Oper} {l:List Oper} (J:a_N ks i=none) (H:Region.wanted o (yielded ops a.tmps)=true)
  (h:∃ v,(∀ b F,FamC (C b) F->c_n ops ks o x F->∀ K:Act->Prop,K (a.put o.dst v)->o.quiet P a (fun W=>∃ d,W=F d) K)/\b_a P ops C T c ks x G (i+1) l (a.put o.dst v)):b_a P ops C T c ks x G i (o :: l) a:=by
 rw [b_a,J];obtain ⟨v,D,I⟩:=h;exact ⟨v,fun b F hF hf=>by rw [if_pos H];exact D b F hF hf,I⟩
theorem i_G {C:Bool->World->Prop} {T:World->World->Prop} {c:Nat} {ks:List Told} {x:Nat->Value} {G a:Act} {i:Nat} {o:Oper} {l:List Oper} {e:Told} (L:a_N ks i=some e) (J:i≠c) (H:Region.wanted o (yielded ops a.tmps)=true)
  (D:∀ b F,FamC (C b) F->c_n ops ks o x F->∀ d,a_k P o a (F d) e.φ) (I:b_a P ops C T c ks x G (i+1) l (a.put (some e.t) (x e.k))):b_a P ops C T c ks x G i (o :: l) a:=by
 rw [b_a,L];exact ⟨⟨H,fun _=>D,fun h=>absurd h J⟩,I⟩
theorem i_H {C:Bool->World->Prop} {T:World->World->Prop} {c:Nat} {ks:List Told} {x:Nat->Value} {G a:Act} {i:Nat} {o:Oper} {l:List Oper} {e:Told} (L:a_N ks i=some e) (J:i=c) (H:Region.wanted o (yielded ops a.tmps)=true)
  (D:∀ W,C false W->c_n ops ks o x (fun _=>W)->d_f P o a W (fun v W'=>e.φ v W'/\C true W'/\T W W')) (I:b_a P ops C T c ks x G (i+1) l (a.put (some e.t) (x e.k))):b_a P ops C T c ks x G i (o :: l) a:=by
 rw [b_a,L];exact ⟨⟨H,fun h=>absurd J h,fun _=>D⟩,I⟩
theorem m_o {C:Bool->World->Prop} {T:World->World->Prop} {c:Nat} {ks:List Told} {x:Nat->Value} {G a:Act} {i:Nat} (h:a=G):b_a P ops C T c ks x G i [] a:=h
end
end Go.Proofs.YtjlofobnmjompaaGreatDoor.Wd
namespace Go.Proofs.YtjlofobnmjompaaGreatDoor.Wd
open Go.RowKit Fx
def e_M (ns:List Nd) (d x:List Int):Int:=if 512<=ns.length then 2 else if isP d x then 0 else 1
def e_N (ns:List Nd) (d x:List Int):Int:=if ns.length < 512/\isP d x then (ns.length:Int) else 0
def c_B (ns:List Nd) (d x:List Int):List Nd:=if ns.length < 512/\isP d x then ns++[⟨1,-1,-1,0,d,x⟩] else ns
theorem OwnK.form_ {e:TypeId} {W:World} {B:Nat} {v:Value} {l:List Int} (h:OwnK .i64 e W B v l):∃ p n c,v = .slice p n c:=by
 obtain ⟨p,n,c,e,_⟩:=h.nums.lst;exact ⟨p,n,c,e⟩
theorem k_I {e:TypeId} {W:World} {B n:Nat} {v:Value} {xs:List Value} (h:W.ownsRow B e 6 v n xs):∀ j,v.ownBlock=some j->B<=j:=fun j D=>(World.ownsRow.lt h j D).1
theorem m_p {w D:World} {a b c d e f:Value} (h:((w.alloc (.cells #[a,b] 64)).alloc (.cells #[c,d] 64)).alloc (.cells #[e,f] 64)=D):Hid (Below w.heap.size w D)/\Hid (Cel D w.heap.size a b)/\Hid (Cel D (w.heap.size+1) c d)/\Hid (Cel D (w.heap.size+2) e f):=⟨b_C (w:=w) h (by go_grown),a_y h (by simp [go_sem]),a_y h (by simp [go_sem]),a_y h (by simp [go_sem])⟩
def ndN (ns:List Nd) (i:Int):Nd:=ns.getD i.toNat ⟨0,0,0,0,[],[]⟩
abbrev okD (ns:List Nd) (op a b:Int):Prop:=(2<=op/\op<=14)/\(0<=a/\a < (ns.length:Int))/\(c_0 op->0<=b/\b < (ns.length:Int))
def dB (op b:Int):Int:=if c_0 op then b else -1
def dK (op k:Int):Int:=if byP op then k else 0
def dD (ns:List Nd) (op b:Int):List Int:=if c_0 op then (ndN ns b).D else []
def dX (ns:List Nd) (op b:Int):List Int:=if c_0 op then (ndN ns b).X else []
def dE (ns:List Nd) (op a b k:Int):Int:=rkE op (ndN ns a).D (ndN ns a).X (dD ns op b) (dX ns op b) (dK op k)
def dN (ns:List Nd) (op a b k:Int):Nd:=⟨op,a,dB op b,dK op k,rkD op (ndN ns a).D (ndN ns a).X (dD ns op b) (dX ns op b) (dK op k),rkV op (ndN ns a).D (ndN ns a).X (dD ns op b) (dX ns op b) (dK op k)⟩
def doE (ns:List Nd) (op a b k:Int):Int:=if 512<=ns.length then 2 else if okD ns op a b then dE ns op a b k else 1
abbrev doP (ns:List Nd) (op a b k:Int):Prop:=(ns.length < 512/\okD ns op a b)/\dE ns op a b k=0
def doR (ns:List Nd) (op a b k:Int):Int:=if doP ns op a b k then (ns.length:Int) else 0
def doN (ns:List Nd) (op a b k:Int):List Nd:=if doP ns op a b k then ns++[dN ns op a b k] else ns
def NodesG (ns:List Nd):Prop:=∀ nd,nd∈ns->c_r nd.D nd.X
theorem g_m {W:World} {b:Nat} {M D L H J I:Value} {e:TypeId} (h:W.heap[b]?=some (.cells #[M,D,L,H,J,I] e (0,0))):
  (W.cell? ⟨b,0,none⟩=some M/\W.cell? ⟨b,1,none⟩=some D/\W.cell? ⟨b,2,none⟩=some L/\W.cell? ⟨b,3,none⟩=some H/\W.cell? ⟨b,4,none⟩=some J/\W.cell? ⟨b,5,none⟩=some I)/\∀ j,W.frozen? ⟨b,j,none⟩=false:=by
 have c:∀ j v,#[M,D,L,H,J,I][j]?=some v->W.cell? ⟨b,j,none⟩=some v:=fun j v O=>by
  unfold World.cell?;simp only [h];exact O
 refine ⟨⟨c 0 _ rfl,c 1 _ rfl,c 2 _ rfl,c 3 _ rfl,c 4 _ rfl,c 5 _ rfl⟩,fun j=>?_⟩;unfold World.frozen?;simp [h]
theorem k_J {ns:List Nd} {i:Nat} {nd:Nd} (h:ns[i]?=some nd):ndN ns (i:Int)=nd:=by
 unfold ndN;rw [show ((i:Int)).toNat=i from rfl,List.getD_eq_getElem?_getD,h];rfl
theorem f_J {ns:List Nd} {i:Nat} {nd:Nd} (h:ns[i]?=some nd):nd∈ns:=List.mem_of_getElem? h
theorem NodesG.nil:NodesG []:=fun nd h=>by simp at h
theorem NodesG.push {ns:List Nd} {nd:Nd} (h:NodesG ns) (I:c_r nd.D nd.X):NodesG (ns++[nd]):=fun x H=>by
 rcases List.mem_append.1 H with H|H
 ·exact h x H
 ·simp at H;subst H;exact I
theorem NodesG.leaf {ns:List Nd} {d x:List Int} (h:NodesG ns) (H:RI x):NodesG (c_B ns d x):=by
 unfold c_B
 split
 ·rename_i D
  exact h.push (f_S D.2 H)
 ·exact h
theorem NodesG.at {ns:List Nd} {i:Int} (h:NodesG ns) (J:0<=i) (I:i < (ns.length:Int)):c_r (ndN ns i).D (ndN ns i).X:=by
 obtain ⟨j,rfl⟩:∃ j:Nat,i=j:=⟨i.toNat,by omega⟩
 have H:ns[j]?=some (ns[j]'(by omega)):=List.getElem?_eq_getElem _;rw [k_J H];exact h _ (f_J H)
theorem NodesG.do {ns:List Nd} {op a b k:Int} (h:NodesG ns):NodesG (doN ns op a b k):=by
 unfold doN
 split
 ·rename_i H
  have D:=H.1.2;refine h.push ?_;exact t_J D.1.1 D.1.2 (h.at D.2.1.1 D.2.1.2).2.2 H.2
 ·exact h
theorem j_U (ns:List Nd) (d x:List Int) (h:ns.length<=512):(c_B ns d x).length<=512:=by
 unfold c_B
 split
 ·rename_i D
  have:=D.1;simp;omega
 ·exact h
theorem p_d (ns:List Nd) (op a b k:Int) (h:ns.length<=512):(doN ns op a b k).length<=512:=by
 unfold doN
 split
 ·rename_i D
  have:=D.1.1;simp;omega
 ·exact h
/-- One step: its error, its number, the nodes behind it. -/
def lsE (ns:List Nd) (s:Nd):Int:=if s.op=1 then e_M ns s.D s.X else doE ns s.op s.a s.b s.k
def lsR (ns:List Nd) (s:Nd):Int:=if s.op=1 then e_N ns s.D s.X else doR ns s.op s.a s.b s.k
def lsN (ns:List Nd) (s:Nd):List Nd:=if s.op=1 then c_B ns s.D s.X else doN ns s.op s.a s.b s.k
def stA (sts:List Nd) (i:Nat):Nd:=sts.getD i ⟨1,0,0,0,[],[]⟩
/-- The first i steps: an error, the nodes, the last one's number. -/
def lyF (sts ns:List Nd):Nat->Int×List Nd×Int
 | 0=>(0,ns,0)
 | i+1=>if (lyF sts ns i).1=0 then (lsE (lyF sts ns i).2.1 (stA sts i),lsN (lyF sts ns i).2.1 (stA sts i),lsR (lyF sts ns i).2.1 (stA sts i)) else lyF sts ns i
theorem j_V (sts ns:List Nd) (i:Nat) (h:(lyF sts ns i).1≠0):∀ k,lyF sts ns (i+k)=lyF sts ns i
 | 0=>rfl
 | k+1=>by
  have e:=j_V sts ns i h k;show (if (lyF sts ns (i+k)).1=0 then _ else lyF sts ns (i+k))=_;rw [e,if_neg h]
theorem j_W {sts ns ms D:List Nd} {i:Nat} {r H:Int} (h:lyF sts ns i=(0,ms,r)) (I:lsE ms (stA sts i)=0) (J:lsN ms (stA sts i)=D) (L:lsR ms (stA sts i)=H):lyF sts ns (i+1)=(0,D,H):=by
 show (if (lyF sts ns i).1=0 then _ else _)=_;rw [h];simp only [if_pos];rw [I,J,L]
abbrev lyP (ns sts:List Nd):Prop:=ns.length+sts.length<=512
def lyE (ns sts:List Nd):Int:=if lyP ns sts then (lyF sts ns sts.length).1 else 2
def lyR (ns sts:List Nd):Int:=if lyP ns sts/\(lyF sts ns sts.length).1=0 then (lyF sts ns sts.length).2.2 else 0
def lyM (ns sts:List Nd):List Nd:=if lyP ns sts then (lyF sts ns sts.length).2.1 else ns
/-- Whether out and want go together; whether a class is one of out's places. -/
def e_e (ns:List Nd) (o:Int) (y:List Int):Int:=if (0<=o/\o < (ns.length:Int))/\y.length=(ndN ns o).X.length then if (ndN ns o).D.length=1 then 0 else 4 else 1
def i_I (ns:List Nd) (o c:Int):Int:=if 0<=o/\o < (ns.length:Int) then if (ndN ns o).D.length=1/\0<=c/\c < ((ndN ns o).X.length:Int) then 0 else 4 else 1
def m_q (ns:List Nd) (o c:Int):Nat:=if i_I ns o c=0 then (ndN ns o).X.length else 0
def lfS (y:List Int):Nd:=⟨1,0,0,0,[(y.length:Int)],y⟩
def opS (op a b k:Int):Nd:=⟨op,a,b,k,[],[]⟩
def sqS (N o:Int) (y:List Int):List Nd:=[lfS y,opS 3 o N 0,opS 4 (N+1) (N+1) 0,opS 10 (N+2) 0 0]
def szS (N o:Int) (y:List Int):List Nd:=[lfS y,opS 3 o N 0,opS 11 (N+1) 0 4,opS 10 (N+2) 0 0]
def j_X (m:Nat) (a c t:Int):List Int:=(List.replicate m a).set c.toNat t
def hgS (N o:Int) (m:Nat) (c:Int):List Nd:=[lfS (j_X m 0 c (-4294967296)),lfS (j_X m 4294967296 c 0),opS 4 o N 0,opS 9 (N+2) 0 0,opS 2 o (N+3) 0,opS 2 (N+4) (N+1) 0,opS 11 (N+5) 0 1,opS 4 (N+6) (N+1) 0,opS 9 (N+7) 0 0]
/-- What a loss tells and leaves, e what was asked first. -/
def loE (e:Int) (ns sts:List Nd):Int:=if e=0 then lyE ns sts else e
def loR (e:Int) (ns sts:List Nd):Int:=if e=0 then lyR ns sts else 0
def loN (e:Int) (ns sts:List Nd):List Nd:=if e=0 then lyM ns sts else ns
theorem NodesG.ls {ns:List Nd} {s:Nd} (h:NodesG ns) (D:RI s.X):NodesG (lsN ns s):=by
 unfold lsN
 split
 ·exact h.leaf D
 ·exact h.do
theorem b_N:RI []:=fun y D=>by simp at D
/-- Nodes behind others. -/
theorem g_0 {ns ms:List Nd} {i:Int} (h:0<=i/\i < (ns.length:Int)):ndN (ns++ms) i=ndN ns i:=by
 unfold ndN;rw [List.getD_eq_getElem?_getD,List.getD_eq_getElem?_getD,List.getElem?_append_left (by omega)]
theorem m_r (ns:List Nd) (nd:Nd):ndN (ns++[nd]) (ns.length:Int)=nd:=by
 unfold ndN;rw [List.getD_eq_getElem?_getD,Int.toNat_natCast,List.getElem?_append_right (Nat.le_refl _),Nat.sub_self];rfl
theorem q_o {ns:List Nd} {d x:List Int} (h:ns.length < 512) (p:isP d x):e_M ns d x=0/\e_N ns d x=(ns.length:Int)/\c_B ns d x=ns++[⟨1,-1,-1,0,d,x⟩]:=
 ⟨(if_neg (by omega)).trans (if_pos p),if_pos ⟨h,p⟩,if_pos ⟨h,p⟩⟩
theorem r_V {ns:List Nd} {op a b k:Int} (h:ns.length < 512) (D:okD ns op a b) (I:dE ns op a b k=0):doE ns op a b k=0/\doR ns op a b k=(ns.length:Int)/\doN ns op a b k=ns++[dN ns op a b k]:=by
 have H:doP ns op a b k:=⟨⟨h,D⟩,I⟩
 exact ⟨(if_neg (by omega)).trans ((if_pos D).trans I),if_pos H,if_pos H⟩
/-- Rows of one side. -/
structure RwP (n:Nat) (x:List Int):Prop where
 l:x.length=n
 h1:1<=n
 h2:n<=4096
theorem RwP.isP {n:Nat} {x:List Int} (h:RwP n x):isP [(n:Int)] x:=by
 have D:ntl [(n:Int)] = [n]:=a_o [n];refine ⟨?_,?_⟩
 ·rw [D];exact ⟨by simp,fun y H=>by simp at H;have:=h.h1;omega,by have:=h.h2;simp [a_e];omega⟩
 ·rw [D,h.l];simp [a_e]
def mp2 (f:Int->Int->Int) (x y:List Int):List Int:=(List.range x.length).map fun i=>f (x.getD i 0) (y.getD i 0)
theorem RwP.map2 {n:Nat} {x y:List Int} (h:RwP n x) (f:Int->Int->Int):RwP n (mp2 f x y):=⟨by simp [mp2,h.l],h.h1,h.h2⟩
theorem RwP.map {n:Nat} {x:List Int} (h:RwP n x) (f:Int->Int):RwP n (x.map f):=⟨by simp [h.l],h.h1,h.h2⟩
theorem o_j {f:Int->Int->Int} {n:Nat} {x y:List Int} (M:RwP n x) (hy:RwP n y):b_u [(n:Int)] x [(n:Int)] y=0/\b_x [(n:Int)] x [(n:Int)] y = [(n:Int)]/\b_G f [(n:Int)] x [(n:Int)] y=mp2 f x y:=by
 have J:=M.isP;have L:=hy.isP;have R:ntl [(n:Int)] = [n]:=a_o [n];have I:goodN [n]:=by have:=J.1;rwa [R] at this
 obtain ⟨U,j⟩:=f_k [n];obtain ⟨O,p2⟩:=b_o I I U (by rw [j];exact I);rw [j] at O;have H:b_T [(n:Int)] [(n:Int)] = [(n:Int)]:=O;have D:b_w [(n:Int)] [(n:Int)]=0:=p2;refine ⟨(if_pos ⟨J,L⟩).trans D,(if_pos ⟨J,L⟩).trans H,(if_pos ⟨⟨J,L⟩,D⟩).trans ?_⟩;rw [H,R];unfold mp2;rw [M.l,show a_e [n]=n by simp [a_e]];refine List.map_congr_left fun i hi=>?_;have V:=List.mem_range.1 hi;rw [h_y I i (by simp [a_e];omega)]
/-- Number by number, of two nodes that are rows of as many. -/
theorem r_W {ms:List Nd} {op a b:Int} (f:Int->Int->Int) (L:c_0 op) (hb:¬ byP op) (O:2<=op/\op<=14)
  (rE:∀ D X H I,rkE op D X H I 0=b_u D X H I) (rD:∀ D X H I,rkD op D X H I 0=b_x D X H I) (rV:∀ D X H I,rkV op D X H I 0=b_G f D X H I)
  (hl:ms.length < 512) (ha:0<=a/\a < (ms.length:Int)) (R:0<=b/\b < (ms.length:Int)) {E:Int} {V D X H I:List Int} (U:(ndN ms a).D=D) (eX:(ndN ms a).X=X) (M:(ndN ms b).D=H) (J:(ndN ms b).X=I) {DD:List Int} (he:b_u D X H I=0/\b_x D X H I=DD/\b_G f D X H I=V):
  doE ms op a b 0=0/\doR ms op a b 0=(ms.length:Int)/\doN ms op a b 0=ms++[⟨op,a,b,0,DD,V⟩]:=by
 have hd:dE ms op a b 0=0:=by
  unfold dE dD dX dK;rw [if_pos L,if_pos L,if_neg hb,rE,U,eX,M,J];exact he.1
 obtain ⟨h3,h4,h5⟩:=r_V (k:=0) hl ⟨O,ha,fun _=>R⟩ hd;refine ⟨h3,h4,h5.trans ?_⟩;unfold dN dD dX dK dB;rw [if_pos L,if_pos L,if_pos L,if_neg hb,rD,rV,U,eX,M,J,he.2.1,he.2.2]
/-- Of one node. -/
theorem p_e {ms:List Nd} {op a b k:Int} (H:¬ c_0 op) (I:2<=op/\op<=14) (hl:ms.length < 512) (ha:0<=a/\a < (ms.length:Int)) {K:Int} {D X O V:List Int} (J:(ndN ms a).D=D) (M:(ndN ms a).X=X) (L:dK op k=K) (rE:rkE op D X [] [] K=0) (rD:rkD op D X [] [] K=O) (U:rkV op D X [] [] K=V):
  doE ms op a b k=0/\doR ms op a b k=(ms.length:Int)/\doN ms op a b k=ms++[⟨op,a,-1,K,O,V⟩]:=by
 have hd:dE ms op a b k=0:=by
  unfold dE dD dX;rw [if_neg H,if_neg H,L,J,M];exact rE
 obtain ⟨h3,h4,R⟩:=r_V hl ⟨I,ha,fun h=>absurd h H⟩ hd;refine ⟨h3,h4,R.trans ?_⟩;unfold dN dD dX dB;rw [if_neg H,if_neg H,if_neg H,L,J,M,rD,U]
theorem m_s {n:Nat} {x:List Int} (h:RwP n x):rkE 10 [(n:Int)] x [] [] 0=0/\rkV 10 [(n:Int)] x [] [] 0 = [f_X x]:=by
 refine ⟨(show k_B [(n:Int)] x=0 from if_pos h.isP),?_⟩;show (if isP [(n:Int)] x then [f_Y [(n:Int)] x] else [])=_;rw [if_pos h.isP];unfold f_Y;rw [if_pos h.isP]
theorem i_J {n:Nat} {x:List Int} (h:RwP n x) {k:Int} (D:1<=k/\k<=5):rkE 11 [(n:Int)] x [] [] k=0/\rkD 11 [(n:Int)] x [] [] k = [(n:Int)]/\rkV 11 [(n:Int)] x [] [] k=x.map fun y=>Fx.bendI k y:=
 ⟨(show f_2 k [(n:Int)] x=0 from if_pos ⟨D,h.isP⟩),(show i_D k [(n:Int)] x=_ from if_pos ⟨D,h.isP⟩),(show k_H k [(n:Int)] x=_ from if_pos ⟨D,h.isP⟩)⟩
/-- What is known of a node that is a row. -/
structure RwN (ms:List Nd) (i:Int) (n:Nat) (x:List Int):Prop where
 r:0<=i/\i < (ms.length:Int)
 D:(ndN ms i).D = [(n:Int)]
 X:(ndN ms i).X=x
theorem RwN.app {ms:List Nd} {i:Int} {n:Nat} {x:List Int} (h:RwN ms i n x) (nd:Nd):RwN (ms++[nd]) i n x:=by
 refine ⟨⟨h.r.1,by have:=h.r.2;rw [List.length_append];simp;omega⟩,?_,?_⟩
 ·rw [g_0 h.r];exact h.D
 ·rw [g_0 h.r];exact h.X
theorem RwN.last (ms:List Nd) (op a b k:Int) (n:Nat) (x:List Int) {i:Int} (D:(ms.length:Int)=i):RwN (ms++[⟨op,a,b,k,[(n:Int)],x⟩]) i n x:=by
 subst D;refine ⟨⟨by omega,by rw [List.length_append];simp;omega⟩,?_,?_⟩ <;> rw [m_r]
theorem r_X {ms:List Nd} {op a b:Int} (f:Int->Int->Int) (V:c_0 op) (hb:¬ byP op) (J:2<=op/\op<=14)
  (rE:∀ D X H I,rkE op D X H I 0=b_u D X H I) (rD:∀ D X H I,rkD op D X H I 0=b_x D X H I) (rV:∀ D X H I,rkV op D X H I 0=b_G f D X H I)
  (hl:ms.length < 512) {n:Nat} {x y:List Int} (hx:RwP n x) (hy:RwP n y) (O:RwN ms a n x) (M:RwN ms b n y):lsE ms (opS op a b 0)=0/\lsN ms (opS op a b 0)=ms++[⟨op,a,b,0,[(n:Int)],mp2 f x y⟩]/\lsR ms (opS op a b 0)=(ms.length:Int):=by
 have L:¬ (opS op a b 0).op=1:=by show ¬ op=1;omega
 obtain ⟨R,U,e3⟩:=r_W (E:=0) f V hb J rE rD rV hl O.r M.r O.D O.X M.D M.X (o_j (f:=f) hx hy);exact ⟨(if_neg L).trans R,(if_neg L).trans e3,(if_neg L).trans U⟩
theorem r_Y {ms:List Nd} {a b:Int} (D:ms.length < 512) {n:Nat} {x y:List Int} (L:RwP n x) (I:RwP n y) (J:RwN ms a n x) (H:RwN ms b n y):lsE ms (opS 3 a b 0)=0/\lsN ms (opS 3 a b 0)=ms++[⟨3,a,b,0,[(n:Int)],mp2 (fun p q=>Fx.hold (p - q)) x y⟩]/\lsR ms (opS 3 a b 0)=(ms.length:Int):=
 r_X _ (.inr (.inl rfl)) (by omega) (by omega) (fun _ _ _ _=>rfl) (fun _ _ _ _=>rfl) (fun _ _ _ _=>rfl) D L I J H
theorem q_p {ms:List Nd} {a b:Int} (M:ms.length < 512) {n:Nat} {x:List Int} (I:RwP n x) (H:RwN ms a n x):lsE ms (opS 10 a b 0)=0/\lsN ms (opS 10 a b 0)=ms++[⟨10,a,-1,0,[],[f_X x]⟩]/\lsR ms (opS 10 a b 0)=(ms.length:Int):=by
 obtain ⟨J,L,O⟩:=p_e (b:=b) (k:=0) (op:=10) (by omega) (by omega) M H.r H.D H.X rfl (m_s I).1 rfl (m_s I).2;exact ⟨J,O,L⟩
theorem q_q {ms:List Nd} {a b:Int} (O:ms.length < 512) {n:Nat} {x:List Int} (J:RwP n x) (I:RwN ms a n x) {k:Int} (H:1<=k/\k<=5):lsE ms (opS 11 a b k)=0/\lsN ms (opS 11 a b k)=ms++[⟨11,a,-1,k,[(n:Int)],x.map fun y=>Fx.bendI k y⟩]/\lsR ms (opS 11 a b k)=(ms.length:Int):=by
 obtain ⟨L,M,R⟩:=p_e (b:=b) (k:=k) (op:=11) (by omega) (by omega) O I.r I.D I.X rfl (i_J J H).1 (i_J J H).2.1 (i_J J H).2.2;exact ⟨L,R,M⟩
theorem q_r {ms:List Nd} (J:ms.length < 512) {n:Nat} {x:List Int} (D:RwP n x):lsE ms (lfS x)=0/\lsN ms (lfS x)=ms++[⟨1,-1,-1,0,[(n:Int)],x⟩]/\lsR ms (lfS x)=(ms.length:Int):=by
 obtain ⟨H,I,L⟩:=q_o J D.isP;unfold lfS;rw [D.l];exact ⟨H,L,I⟩
theorem i_K (ms:List Nd) (nd:Nd):(ms++[nd]).length=ms.length+1:=by simp
def dif (x y:List Int):List Int:=mp2 (fun p q=>Fx.hold (p - q)) x y
def szV (x y:List Int):List Int:=(dif x y).map fun v=>Fx.bendI 4 v
def lf1 (ms:List Nd) (n:Nat) (y:List Int):List Nd:=ms++[⟨1,-1,-1,0,[(n:Int)],y⟩]
def df2 (ms:List Nd) (o:Int) (n:Nat) (x y:List Int):List Nd:=lf1 ms n y++[⟨3,o,(ms.length:Int),0,[(n:Int)],dif x y⟩]
def sz3 (ms:List Nd) (o:Int) (n:Nat) (x y:List Int):List Nd:=df2 ms o n x y++[⟨11,(ms.length:Int)+1,-1,4,[(n:Int)],szV x y⟩]
def sz4 (ms:List Nd) (o:Int) (n:Nat) (x y:List Int):List Nd:=sz3 ms o n x y++[⟨10,(ms.length:Int)+2,-1,0,[],[f_X (szV x y)]⟩]
theorem g_1 (ms:List Nd) (n:Nat) (y:List Int):(lf1 ms n y).length=ms.length+1:=i_K _ _
theorem g_2 (ms:List Nd) (o:Int) (n:Nat) (x y:List Int):(df2 ms o n x y).length=ms.length+2:=(i_K _ _).trans (by rw [g_1])
theorem m_t (ms:List Nd) (o:Int) (n:Nat) (x y:List Int):(sz3 ms o n x y).length=ms.length+3:=(i_K _ _).trans (by rw [g_2])
/-- A row of a tape, and one that is held against it. -/
structure Fit (ms:List Nd) (o:Int) (n:Nat) (x y:List Int) (m:Nat):Prop where
 hx:RwP n x
 hy:RwP n y
 ho:RwN ms o n x
 hl:ms.length+m<=512
theorem Fit.dif {ms:List Nd} {o:Int} {n m:Nat} {x y:List Int} (h:Fit ms o n x y m):RwP n (dif x y):=h.hx.map2 _
theorem Fit.sz {ms:List Nd} {o:Int} {n m:Nat} {x y:List Int} (h:Fit ms o n x y m):RwP n (szV x y):=h.dif.map _
theorem Fit.e {ms:List Nd} {o:Int} {n m:Nat} {x y:List Int} (h:Fit ms o n x y m):e_e ms o y=0:=by
 unfold e_e;rw [if_pos ⟨h.ho.r,by rw [h.ho.X,h.hx.l,h.hy.l]⟩,if_pos (by rw [h.ho.D];rfl)]
theorem Fit.two {ms:List Nd} {o:Int} {n:Nat} {x y:List Int} (h:Fit ms o n x y 4) {S:List Nd} (D:stA S 0=lfS y) (H:stA S 1=opS 3 o (ms.length:Int) 0):lyF S ms 2=(0,df2 ms o n x y,(ms.length:Int)+1):=by
 have V:=h.hl;obtain ⟨J,L,M⟩:=q_r (ms:=ms) (by omega) h.hy;have I:lyF S ms 1=(0,lf1 ms n y,(ms.length:Int)):=j_W (i:=0) (r:=0) rfl (by rw [D];exact J) (by rw [D];exact L) (by rw [D];exact M);obtain ⟨R,U,O⟩:=r_Y (ms:=lf1 ms n y) (a:=o) (b:=(ms.length:Int)) (by rw [g_1];omega) h.hx h.hy (h.ho.app _) (RwN.last _ _ _ _ _ _ _ rfl);exact j_W I (by rw [H];exact R) (by rw [H];exact U) (by rw [H];exact O.trans (by rw [g_1];rfl))
theorem Fit.dfN {ms:List Nd} {o:Int} {n m:Nat} {x y:List Int} (h:Fit ms o n x y m):RwN (df2 ms o n x y) ((ms.length:Int)+1) n (Wd.dif x y):=RwN.last _ _ _ _ _ _ _ (by rw [g_1];rfl)
theorem s_4 {ms:List Nd} {o:Int} {n:Nat} {x y:List Int} (h:Fit ms o n x y 4):lyF (szS (ms.length:Int) o y) ms 4=(0,sz4 ms o n x y,(ms.length:Int)+3):=by
 have U:=h.hl;have D:=h.two (S:=szS (ms.length:Int) o y) rfl rfl;obtain ⟨R,H,I⟩:=q_q (b:=0) (ms:=df2 ms o n x y) (by rw [g_2];omega) h.dif h.dfN (k:=4) (by omega);have L:lyF (szS (ms.length:Int) o y) ms 3=(0,sz3 ms o n x y,(ms.length:Int)+2):=j_W D R H (I.trans (by rw [g_2];rfl));obtain ⟨J,M,O⟩:=q_p (b:=0) (ms:=sz3 ms o n x y) (a:=(ms.length:Int)+2) (by rw [m_t];omega) h.sz (RwN.last _ _ _ _ _ _ _ (by rw [g_2];rfl));exact j_W L J M (O.trans (by rw [m_t];rfl))
theorem s_5 {ms H S:List Nd} {e R:Int} (he:e=0) (D:ms.length+S.length<=512) (h:lyF S ms S.length=(0,H,R)):loE e ms S=0/\loR e ms S=R/\loN e ms S=H:=by
 subst he;have I:lyE ms S=0:=(if_pos D).trans (by rw [h]);refine ⟨(if_pos rfl).trans I,(if_pos rfl).trans ((if_pos ⟨D,by rw [h]⟩).trans (by rw [h])),(if_pos rfl).trans ((if_pos D).trans (by rw [h]))⟩
theorem Fit.size {ms:List Nd} {o:Int} {n:Nat} {x y:List Int} (h:Fit ms o n x y 4):loE (e_e ms o y) ms (szS (ms.length:Int) o y)=0/\loR (e_e ms o y) ms (szS (ms.length:Int) o y)=(ms.length:Int)+3/\loN (e_e ms o y) ms (szS (ms.length:Int) o y)=sz4 ms o n x y:=s_5 h.e h.hl (s_4 h)
theorem RwN.sz {ms:List Nd} {o:Int} {n:Nat} {x:List Int} (h:RwN ms o n x) (D:Int) (H:Nat) (I y:List Int):RwN (sz4 ms D H I y) o n x:=(((h.app _).app _).app _).app _
/-- Hinge. -/
def hgA (n:Nat) (c:Int):List Int:=j_X n 0 c (-4294967296)
def hgB (n:Nat) (c:Int):List Int:=j_X n 4294967296 c 0
def hgT (n:Nat) (c:Int) (x:List Int):Int:=Fx.hold (b_v (mp2 Fx.mulI x (hgA n c)))
def h5V (n:Nat) (c:Int) (x:List Int):List Int:=x.map fun v=>Fx.hold (v+hgT n c x)
def h6V (n:Nat) (c:Int) (x:List Int):List Int:=mp2 (fun p q=>Fx.hold (p+q)) (h5V n c x) (hgB n c)
def h7V (n:Nat) (c:Int) (x:List Int):List Int:=(h6V n c x).map fun v=>Fx.bendI 1 v
def h8V (n:Nat) (c:Int) (x:List Int):List Int:=mp2 Fx.mulI (h7V n c x) (hgB n c)
def hg2 (ms:List Nd) (n:Nat) (c:Int):List Nd:=ms++[⟨1,-1,-1,0,[(n:Int)],hgA n c⟩]++[⟨1,-1,-1,0,[(n:Int)],hgB n c⟩]
def hg4 (ms:List Nd) (o:Int) (n:Nat) (c:Int) (x:List Int):List Nd:=hg2 ms n c++[⟨4,o,(ms.length:Int),0,[(n:Int)],mp2 Fx.mulI x (hgA n c)⟩]++[⟨9,(ms.length:Int)+2,-1,0,[],[hgT n c x]⟩]
def hg6 (ms:List Nd) (o:Int) (n:Nat) (c:Int) (x:List Int):List Nd:=hg4 ms o n c x++[⟨2,o,(ms.length:Int)+3,0,[(n:Int)],h5V n c x⟩]++[⟨2,(ms.length:Int)+4,(ms.length:Int)+1,0,[(n:Int)],h6V n c x⟩]
def hg8 (ms:List Nd) (o:Int) (n:Nat) (c:Int) (x:List Int):List Nd:=hg6 ms o n c x++[⟨11,(ms.length:Int)+5,-1,1,[(n:Int)],h7V n c x⟩]++[⟨4,(ms.length:Int)+6,(ms.length:Int)+1,0,[(n:Int)],h8V n c x⟩]
def TapC (W:World) (B b:Nat) (ns:List Nd):Prop:=Tap 90 109 W B b ns
abbrev SC:List TypeId:=[90,109]
theorem TapC.up {W W':World} {B b:Nat} {ns:List Nd} (h:TapC W B b ns) (D:Below W.heap.size W W'):TapC W' B b ns:=Tap.up h D
theorem o_k:109≠90:=by decide
def Spare (tb:Nat) (w w':World):Prop:=∀ x v,w.heap[tb]?=some (.cells #[v] 90 (0,0))->x≠tb->x < w.heap.size->v.ownBlock≠some x->w'.heap[x]?=w.heap[x]?/\∃ v',w'.heap[tb]?=some (.cells #[v'] 90 (0,0))/\v'.ownBlock≠some x
theorem Spare.of {I:Nat} {w D:World} (h:Below w.heap.size w D):Spare I w D:=fun x v H _ L J=>⟨h.block x L,v,(h.block I (a_i H)).trans H,J⟩
theorem Spare.trans {J:Nat} {a b c:World} (h:Spare J a b) (U:Spare J b c):Spare J a c:=fun x v V M L ho=>by
 obtain ⟨D,R,I,H⟩:=h x v V M L ho
 have hb:x < b.heap.size:=by
  rw [Array.getElem?_eq_getElem L] at D;exact a_i D
 obtain ⟨O,r⟩:=U x R I M hb H;exact ⟨O.trans D,r⟩
/-- No node's dims lie in block x. -/
def AvT (x:Nat) (W:World) (tb:Nat):Prop:=∃ v,W.heap[tb]?=some (.cells #[v] 90 (0,0))/\∀ g m c,v = .slice (some ⟨g,0,none⟩) m c->g < W.heap.size/\∀ i,i < m->∀ ad m' c',W.cell? ⟨g,i*6+4,none⟩=some (.slice (some ad) m' c')->ad.block≠x
def SpA (H tb:Nat) (w w':World):Prop:=∀ x,x < H->AvT x w tb->AvT x w' tb
theorem AvT.up {x H:Nat} {W W':World} (h:AvT x W H) (D:Below W.heap.size W W'):AvT x W' H:=by
 obtain ⟨v,J,h⟩:=h;refine ⟨v,(D.block H (a_i J)).trans J,fun g m c e=>?_⟩;obtain ⟨L,O⟩:=h g m c e;refine ⟨Nat.lt_of_lt_of_le L D.size,fun i U R V M I=>O i U R V M ?_⟩;unfold World.cell? at I ⊢;rw [<- D.block g L];exact I
theorem q_s {w6 w8:World} {B L N cL c8 J x:Nat} {pL:Option Addr} {D u:List Value} {s:Value} (ac:w6.heap[L]?=some (.cells #[.slice pL N cL] 90 (0,0))) (V:w6.ownsRow B 109 6 (.slice pL N cL) N D) (hl:D.length=N*6) (U:w8.heap[L]?=some (.cells #[.slice pL N cL] 90 (0,0)))
  (H:w8.ownsRow B 109 6 (.slice (some ⟨J,0,none⟩) (N+1) c8) (N+1) (D++u)) (hu:u[4]?=some s) (hs:∀ M m c,s = .slice (some M) m c->M.block≠x) (I:AvT x w6 L):AvT x (w8.setCell ⟨L,0,none⟩ (.slice (some ⟨J,0,none⟩) (N+1) c8)) L:=by
 obtain ⟨v,hv,I⟩:=I;rw [ac] at hv;cases hv;have ab:J≠L:=fun e=>d_6 o_k U H (by rw [<- e];rfl);refine ⟨_,(a_m U).trans rfl,fun g m c e=>?_⟩;cases e;refine ⟨by have:=(World.ownsRow.lt H J rfl).2;simpa using this,fun i hi M m' c' hc=>?_⟩
 have O:w8.cell? ⟨J,i*6+4,none⟩=some (.slice (some M) m' c'):=by
  unfold World.cell? at hc ⊢;rw [a_T _ _ _ _ _ ab] at hc;exact hc
 by_cases aa:i < N
 ·have hj:i*6+4 < D.length:=by omega
  obtain ⟨z,hz⟩:∃ z,D[i*6+4]?=some z:=⟨_,List.getElem?_eq_getElem hj⟩
  have R:=H.cells (g:=J) rfl (i*6+4) z (by rw [List.getElem?_append_left hj];exact hz);rw [a_u,Nat.zero_add,O] at R;cases R;rcases V.2 with ⟨h0,h1⟩|⟨g,af,ag,hv,hb,hg,rest⟩
  ·omega
  ·cases hv;have h6:=V.cells (g:=g) rfl (i*6+4) _ hz;rw [a_u,Nat.zero_add] at h6;exact (I g N cL rfl).2 i aa M m' c' h6
 ·have ae:i=N:=by omega
  subst ae;have R:=H.cells (g:=J) rfl (i*6+4) s (by rw [List.getElem?_append_right (by omega),hl,Nat.add_sub_cancel_left];exact hu);rw [a_u,Nat.zero_add,O] at R;cases R;exact hs M m' c' rfl
theorem m_u {W:World} {H L O:Nat} {M:Option Addr} {D:List Int} (h:OwnK .i64 3 W H (.slice M L O) D):∀ I m c,Value.slice M L O = .slice (some I) m c->H<=I.block:=fun I m c e=>by
 rcases h.2 with ⟨R,_⟩|⟨g,V,U,J,hb,_⟩
 ·rw [e] at R;cases R
 ·rw [e] at J;cases J;exact hb
theorem m_v {W:World} {H M L x:Nat} {J:Option Addr} {D:List Int} (h:OwnK .i64 3 W H (.slice J M L) D) (O:x < H):∀ I m c,Value.slice J M L = .slice (some I) m c->I.block≠x:=fun I m c e=>by
 have:=m_u h I m c e;omega
/-- What a tape's change leaves to others. -/
def Spar2 (tb:Nat) (w w':World):Prop:=Spare tb w w'/\SpA w.heap.size tb w w'
theorem Spar2.of {I:Nat} {w D:World} (h:Below w.heap.size w D):Spar2 I w D:=⟨Spare.of h,fun x _ H=>H.up h⟩
theorem Spar2.trans {D:Nat} {a b c:World} (h:Spar2 D a b) (H:Spar2 D b c) (J:a.heap.size<=b.heap.size):Spar2 D a c:=⟨h.1.trans H.1,fun x I L=>H.2 x (Nat.lt_of_lt_of_le I J) (h.2 x I L)⟩
theorem Spar2.kept {L U M:Nat} {R:Option Addr} {D:List Int} {w I J:World} (h:Below w.heap.size w I) (O:Spare L I J/\∀ H,OwnK .i64 3 I H (.slice R U M) D->SpA H L I J) (V:OwnK .i64 3 I w.heap.size (.slice R U M) D):Spar2 L w J:=
 ⟨(Spare.of h).trans O.1,fun x hx ha=>O.2 _ V x hx (ha.up h)⟩
/-- A node's dims lie below the heap's end. -/
theorem TapC.av {W:World} {B H x:Nat} {ns:List Nd} (h:TapC W B H ns) (hx:W.heap.size<=x):AvT x W H:=by
 obtain ⟨p,c,xs,hv,J,R,_⟩:=Tap.head h;refine ⟨_,hv,fun g m c' e=>?_⟩;cases e;refine ⟨(World.ownsRow.lt J g rfl).2,fun i L ad m' aa hc=>?_⟩;obtain ⟨q,nd,s,t,e,_,_,_,_,_,I,_,M,_⟩:=d_u J R rfl i L;cases e;rw [hc] at I;cases I;rcases M.2 with ⟨V,_⟩|⟨g2,O,U,D,_,hg2,_⟩
 ·cases V
 ·cases D;have:=a_i hg2;intro e;have e':g2=x:=e;omega
/-- A row of ints of another's may grow. -/
theorem TapC.beside {W W':World} {B tb r:Nat} {ns:List Nd} {cs:Array Value} {fz:Nat×Nat} (h:TapC W B tb ns) (hg:W.grownBy W' (some r)) (hr:W.heap[r]?=some (.cells cs 3 fz)) (ha:AvT r W tb):TapC W' B tb ns:=by
 have hk:∀ (k:Nat) (M:Array Value) (e:TypeId) (O:Nat×Nat),W.heap[k]?=some (.cells M e O)->e≠3->W'.heap[k]?=some (.cells M e O):=fun k M e O U h2=>by
  rw [hg.block k (a_i U) (fun e'=>by cases e';rw [hr] at U;cases U;exact h2 rfl)];exact U
 obtain ⟨hb,v,xs,hv,ho,hn⟩:=h
 have V:W'.ownsRow B 109 6 v ns.length xs:=by
  refine ⟨ho.1,?_⟩;rcases ho.2 with hn|⟨g,D,H,hv,hb,hg,rest⟩
  ·exact .inl hn
  ·exact .inr ⟨g,D,H,hv,hb,hk _ _ _ _ hg (by decide),rest⟩
 refine ⟨hb,v,xs,hk _ _ _ _ hv (by decide),V,hn.1,fun i nd hi=>?_⟩;obtain ⟨s,t,e,hs,ht⟩:=hn.2 i nd hi;refine ⟨s,t,e,⟨hs.1,?_⟩,⟨ht.1,?_⟩⟩
 ·rcases hs.2 with L|⟨g,D,H,J,R,I,rest⟩
  ·exact .inl L
  ·refine .inr ⟨g,D,H,J,R,?_,rest⟩;rw [hg.block g (a_i I) (fun e'=>?_)]
   ·exact I
   ·cases e';obtain ⟨v',aa,ab⟩:=ha;rw [hv] at aa;cases aa
    have ac:i < ns.length:=by
     rcases Nat.lt_or_ge i ns.length with h|h
     ·exact h
     ·rw [List.getElem?_eq_none h] at hi;cases hi
    have hx:xs[i*6+4]?=some s:=by
     have h4:((xs.drop (i*6)).take 6)[4]?=some s:=by rw [e];rfl
     rw [List.getElem?_take] at h4
     split at h4
     ·rw [List.getElem?_drop] at h4;exact h4
     ·cases h4
    rcases ho.2 with ⟨_,U⟩|⟨g2,ae,af,ad,_,_,_⟩
    ·omega
    ·subst ad;have h6:=ho.cells (g:=g2) rfl (i*6+4) _ hx;rw [a_u,Nat.zero_add,J] at h6;exact (ab g2 _ _ rfl).2 i ac _ _ _ h6 rfl
 ·rcases ht.2 with L|⟨g,D,H,J,R,I,rest⟩
  ·exact .inl L
  ·exact .inr ⟨g,D,H,J,R,hk _ _ _ _ I (by decide),rest⟩
theorem AvT.beside {W W':World} {R r x B:Nat} {ns:List Nd} {cs:Array Value} {fz:Nat×Nat} (h:AvT x W R) (hT:TapC W B R ns) (hg:W.grownBy W' (some r)) (hr:W.heap[r]?=some (.cells cs 3 fz)):AvT x W' R:=by
 obtain ⟨v,U,h⟩:=h;have H:∀ (k:Nat) (I:Array Value) (e:TypeId) (J:Nat×Nat),W.heap[k]?=some (.cells I e J)->e≠3->W'.heap[k]?=W.heap[k]?:=fun k I e J L M=>hg.block k (a_i L) (fun e'=>by cases e';rw [hr] at L;cases L;exact M rfl);refine ⟨v,(H _ _ _ _ U (by decide)).trans U,fun g m c e=>?_⟩;obtain ⟨O,M⟩:=h g m c e;refine ⟨Nat.lt_of_lt_of_le O hg.size,fun i hi ad m' c' V=>M i hi ad m' c' ?_⟩;obtain ⟨p,c2,xs,D,ho,_,_⟩:=Tap.head hT;rw [U] at D;cases D;cases e;rcases ho.2 with ⟨h0,_⟩|⟨g2,aa,ab,D,_,hg2,_⟩
 ·cases h0
 ·cases D;unfold World.cell? at V ⊢;rw [<- H _ _ _ _ hg2 (by decide)];exact V
/-- A row of nodes of one's own, and where it lies. -/
def OwnL (e:TypeId) (B n:Nat) (xs:List Value) (r:Option Nat) (H:Nat) (v:Value) (W:World):Prop:=OwnN e B n xs v W/\∃ g c,v = .slice (some ⟨g,0,none⟩) n c/\(r=some g∨H<=g)
theorem OwnL.up {e:TypeId} {B n:Nat} {xs:List Value} {r:Option Nat} {H:Nat} {v:Value} {W W':World} (h:OwnL e B n xs r H v W) (D:Below W.heap.size W W'):OwnL e B n xs r H v W':=⟨OwnN.up h.1 D,h.2⟩
theorem s_6:StT Tryz.prog 88 109 80:=⟨Tryz.underlying88,by kernel_rfl⟩
/-- append of one node that a literal holds, and where the row lies then. -/
theorem t_K {P:Program} {t e:TypeId} {b:Nat} (T:StT P t e b) (hb:b<=128) (R:TypeId) (W:World) (B:Nat) (v:Value) (n:Nat) (xs:List Value) (ho:W.ownsRow B e 6 v n xs) (g:Nat) (u:List Value) (hg:W.heap[g]?=some (.cells u.toArray e (0,0))) (hu:u.length=6) (h1:∀ x∈u,x.oneCell'=true) (hn:n+1<=1073741824) (V:B<=W.heap.size):
  ∃ I D M,(Builtin.append_ #[t,t] R #[v,.slice (some ⟨g,0,none⟩) 1 1]).run P W = .ok (.slice (some ⟨I,0,none⟩) (n+1) D) M/\M.ownsRow B e 6 (.slice (some ⟨I,0,none⟩) (n+1) D) (n+1) (xs++u)/\W.grownBy M v.ownBlock/\(v.ownBlock=some I∨I=W.heap.size):=by
 have J:=T.hi;cases h:P.info? e with
 | none=>rw [h] at J;cases J
 | some i=>
  rw [h] at J;simp only [Option.map_some,Option.some.injEq,Prod.mk.injEq] at J;obtain ⟨L,hs,O⟩:=J;cases H:i.zero with
  | none=>rw [H] at L;cases L
  | some z=>
   rw [H] at L;simp only [Option.map_some,Option.some.injEq] at L;have hm:(n+1)*b<=1073741824*128:=Nat.mul_le_mul hn hb
   obtain ⟨I,D,M,hr,h2,h3,h4,_⟩:=run_append_lies (P:=P) W t R B e i z 6 b T.ht h H hs O L (by decide) v n xs ho ⟨g,0,none⟩ 1 1 u (by omega) (fun j x U=>by
    rw [a_u,Nat.zero_add];unfold World.cell?;simpa [hg] using U) h1 (by omega) (by unfold maxLen;omega) (by omega) V _ rfl
   exact ⟨I,D,M,hr,h2,h3,h4⟩
theorem o_l (w:World):Calls Tryz.prog 21 #[] w fun e D=>∃ b,e = .returned (.pointer (some ⟨b,0,none⟩))/\TapC D w.heap.size b []/\Below w.heap.size w D:=by
 go_enter Tryz.func21,Tryz.ntmps21;go_wp2;exact bodyPost_ret (v:=.pointer (some ⟨w.heap.size,0,none⟩)) (by simp [results,Tryz.results21,go_sem]) rfl ⟨_,rfl,Tap.new (Nat.le_refl _),a_b _ _⟩
theorem c_e (B R:Nat) (ns:List Nd) (q:Bool) (V:decide (512<=ns.length)=q) (w:World) (J:TapC w B R ns):Calls Tryz.prog 96 #[.pointer (some ⟨R,0,none⟩)] w fun e w'=>e = .returned (.bool q)/\w'=w:=by
 have L:Hid (TapC w B R ns):=J;obtain ⟨pL,cL,ab,H,U,O,D⟩:=Tap.head J;obtain ⟨N,M⟩:∃ N,ns.length=N:=⟨_,rfl⟩
 rw [M] at H U D;have I:=(b_H H).1;have hz:=a_i H;rw [M] at V;have aa:decide ((512:Int)<=(N:Int))=q:=by rw [<- V];exact decide_eq_decide.2 (by omega)
 clear J L H U O D M;go_enter Tryz.func96,Tryz.ntmps96;go_wp2;go_ret;exact ⟨rfl,rfl⟩
theorem c_R (B V:Nat) (ns:List Nd) (i:Int) (q:Bool) (H:decide (0<=i/\i < (ns.length:Int))=q) (w:World) (M:TapC w B V ns):Calls Tryz.prog 70 #[.pointer (some ⟨V,0,none⟩),.int .i64 i] w fun e w'=>e = .returned (.bool q)/\w'=w:=by
 have L:Hid (TapC w B V ns):=M;obtain ⟨pL,cL,aa,I,ho,R,D⟩:=Tap.head M;obtain ⟨N,O⟩:∃ N,ns.length=N:=⟨_,rfl⟩
 rw [O] at I ho D;have J:=(b_H I).1;have hz:=a_i I;rw [O] at H;clear M L I ho R D O;by_cases h0:i < 0
 ·have U:q=false:=by rw [<- H];exact decide_eq_false (by omega)
  subst U;have d1:decide (0<=i)=false:=decide_eq_false (by omega);clear H h0;go_enter Tryz.func70,Tryz.ntmps70;go_wp2;go_ret;exact ⟨rfl,rfl⟩
 ·have d1:decide (0<=i)=true:=decide_eq_true (by omega);have d2:decide (i < (N:Int))=q:=by rw [<- H];exact decide_eq_decide.2 (by omega)
  clear H h0;go_enter Tryz.func70,Tryz.ntmps70;go_wp2;go_ret;exact ⟨rfl,rfl⟩
theorem f_K (op:Int) (q:Bool) (H:decide (c_0 op)=q) (w:World):
  Calls Tryz.prog 99 #[.int .i64 op] w fun e R=>e = .returned (.bool q)/\R=w:=by
 by_cases J:op=2
 ·subst J;have D:q=true:=by rw [<- H];decide
  subst D;clear H;go_enter Tryz.func99,Tryz.ntmps99;go_wp2;go_ret;exact ⟨rfl,rfl⟩
 by_cases M:op=3
 ·subst M;have D:q=true:=by rw [<- H];decide
  subst D;clear H;go_enter Tryz.func99,Tryz.ntmps99;go_wp2;go_ret;exact ⟨rfl,rfl⟩
 by_cases L:op=4
 ·subst L;have D:q=true:=by rw [<- H];decide
  subst D;clear H;go_enter Tryz.func99,Tryz.ntmps99;go_wp2;go_ret;exact ⟨rfl,rfl⟩
 by_cases O:op=6
 ·subst O;have D:q=true:=by rw [<- H];decide
  subst D;clear H;go_enter Tryz.func99,Tryz.ntmps99;go_wp2;go_ret;exact ⟨rfl,rfl⟩
 by_cases I:op=12
 ·subst I;have D:q=true:=by rw [<- H];decide
  subst D;clear H;go_enter Tryz.func99,Tryz.ntmps99;go_wp2;go_ret;exact ⟨rfl,rfl⟩
 have g2:(op==2)=false:=by simpa using J
 have g3:(op==3)=false:=by simpa using M
 have g4:(op==4)=false:=by simpa using L
 have V:(op==6)=false:=by simpa using O
 have U:(op==12)=false:=by simpa using I
 have D:q=false:=by rw [<- H];exact decide_eq_false (by omega)
 subst D;clear H J M L O I;go_enter Tryz.func99,Tryz.ntmps99;go_wp2;go_ret;exact ⟨rfl,rfl⟩
theorem h_X (op:Int) (q:Bool) (H:decide (byP op)=q) (w:World):
  Calls Tryz.prog 100 #[.int .i64 op] w fun e V=>e = .returned (.bool q)/\V=w:=by
 by_cases M:op=5
 ·subst M;have D:q=true:=by rw [<- H];decide
  subst D;clear H;go_enter Tryz.func100,Tryz.ntmps100;go_wp2;go_ret;exact ⟨rfl,rfl⟩
 by_cases O:op=8
 ·subst O;have D:q=true:=by rw [<- H];decide
  subst D;clear H;go_enter Tryz.func100,Tryz.ntmps100;go_wp2;go_ret;exact ⟨rfl,rfl⟩
 by_cases I:op=11
 ·subst I;have D:q=true:=by rw [<- H];decide
  subst D;clear H;go_enter Tryz.func100,Tryz.ntmps100;go_wp2;go_ret;exact ⟨rfl,rfl⟩
 by_cases J:op=12
 ·subst J;have D:q=true:=by rw [<- H];decide
  subst D;clear H;go_enter Tryz.func100,Tryz.ntmps100;go_wp2;go_ret;exact ⟨rfl,rfl⟩
 by_cases L:op=13
 ·subst L;have D:q=true:=by rw [<- H];decide
  subst D;clear H;go_enter Tryz.func100,Tryz.ntmps100;go_wp2;go_ret;exact ⟨rfl,rfl⟩
 have g5:(op==5)=false:=by simpa using M
 have g8:(op==8)=false:=by simpa using O
 have U:(op==11)=false:=by simpa using I
 have aa:(op==12)=false:=by simpa using J
 have R:(op==13)=false:=by simpa using L
 have D:q=false:=by rw [<- H];exact decide_eq_false (by omega)
 subst D;clear H M O I J L;go_enter Tryz.func100,Tryz.ntmps100;go_wp2;go_ret;exact ⟨rfl,rfl⟩
theorem h_Y {B:Nat} {a b c:World} (h:Below B a b) (D:Below B b c):Below B a c:=h.trans D
theorem f_L (p V:Option Addr) (n c n2 U:Nat) (dd H:List Int) (hg:isP dd H) (w:World) (h1:Nums .i64 w (.slice p n c) dd) (h2:Nums .i64 w (.slice V n2 U) H):
  Calls Tryz.prog 71 #[.agg #[.slice p n c,.slice V n2 U]] w fun e I=>∃ v,e = .returned v/\TRes I w.heap.size v dd H/\Below w.heap.size w I:=by
 have ab:dd.length<=1073741824:=by have:=hg.1.1;rw [a_Q] at this;omega
 have aa:H.length<=1073741824:=by have h3:=hg.1.2.2;have h4:=hg.2;omega
 have CI:Hid (∀ W,Below w.heap.size w W->Calls Tryz.prog 75 #[.slice p n c] W fun e I=>∃ O,e = .returned O/\OwnK .i64 3 I W.heap.size O dd/\Below W.heap.size W I):=fun W hW=>b_h _ dd (by omega) W (h1.up hW);have CF:Hid (∀ W,Below w.heap.size w W->Calls Tryz.prog 91 #[.slice V n2 U] W fun e I=>∃ O,e = .returned O/\OwnK .i64 23 I W.heap.size O H/\Below W.heap.size W I):=fun W hW=>g_c _ H (by omega) W (h2.up hW);haveI:Nonempty World:=⟨w⟩
 clear h1 h2 ab aa hg;go_enter Tryz.func71,Tryz.ntmps71;go_wp2_with fail
 generalize D:World.alloc _ _=W0;have J:=b_C (w:=w) D (by go_grown);have XA:Hid (Cel W0 w.heap.size (.slice p n c) (.slice V n2 U)):=a_y D (by simp [go_sem]);have XR:Hid (Cel W0 (w.heap.size+1) (.slice none 0 0) (.slice none 0 0)):=a_y D (by simp [go_sem]);clear D;obtain ⟨a0,a1,_,_⟩:=XA.out;have k0:=a_a a0;refine rel [⟨2,5,fun v W=>OwnK .i64 3 W W0.heap.size v dd⟩,⟨5,8,fun v W=>OwnK .i64 23 W W0.heap.size v H⟩,⟨6,9,OwnT W0.heap.size dd H⟩] 7 10 (by kernel_rfl) rfl rfl (by kernel_rfl) (by rfl) ?_ ?_
 ·intro e he v W W' h hb;simp only [List.mem_cons,List.not_mem_nil,or_false] at he;rcases he with rfl|rfl|rfl
  ·exact OwnK.up h hb
  ·exact OwnK.up h hb
  ·exact OwnT.up h hb
 apply Exists.intro;refine ⟨fun x=>?_,?_,?_⟩
 ·simp only [List.take_succ_cons,List.take_zero]
  iterate 2
   refine a_n rfl rfl ?_;apply Exists.intro;refine ⟨fun F hF hf K hK=>?_,?_⟩
   ·have hFc:=hF.cell;have hFf:=hF.frozen
    go_big_quiet_op
    exact hK
   (try simp only [c_J])
  refine a_p rfl rfl ?_ ?_
  ·intro F hF hf d;have hFc:=hF.cell;have hFf:=hF.frozen;simp [a_k,a_g,go_sem];refine (CI.out (F d) (a_c J.out (hF.below d))).mono ?_;rintro e' w8 ⟨v8,rfl,M,L⟩;exact ⟨_,rfl,M.low (hF.below d).size,L⟩
  iterate 2
   (try simp only [c_J])
   refine a_n rfl rfl ?_;apply Exists.intro;refine ⟨fun F hF hf K hK=>?_,?_⟩
   ·have hFc:=hF.cell;have hFf:=hF.frozen
    go_big_quiet_op
    exact hK
  (try simp only [c_J])
  refine a_p rfl rfl ?_ ?_
  ·intro F hF hf d;have hFc:=hF.cell;have hFf:=hF.frozen;simp [a_k,a_g,go_sem];refine (CF.out (F d) (a_c J.out (hF.below d))).mono ?_;rintro e' w8 ⟨v8,rfl,M,L⟩;exact ⟨_,rfl,M.low (hF.below d).size,L⟩
  (try simp only [c_J])
  refine a_p rfl rfl ?_ ?_
  ·intro F hF hf d;have hFc:=hF.cell;have hFf:=hF.frozen;have h9:OwnK .i64 3 (F d) W0.heap.size (x 2) dd:=hf _ List.mem_cons_self (by rfl) d;have M:OwnK .i64 23 (F d) W0.heap.size (x 5) H:=hf _ (List.mem_cons_of_mem _ List.mem_cons_self) (by rfl) d;obtain ⟨p9,n9,c9,e9⟩:=h9.form_;obtain ⟨p8,n8,c8,e8⟩:=M.form_;rw [e9] at h9;rw [e8] at M;simp [a_k,a_g,go_sem,e9,e8];exact ⟨⟨_,_,_,_,_,_,rfl,h9,M⟩,Below.refl _ _⟩
  (try simp only [c_J])
  refine b_f ?_;exact rfl
 ·exact fun x=>rfl
 ·intro w1 xs ac hf;simp only [List.drop_succ_cons,List.drop_zero];have R:=hf _ (List.mem_cons_of_mem _ (List.mem_cons_of_mem _ List.mem_cons_self));obtain ⟨x2,e2⟩:∃ q,xs 2=q:=⟨_,rfl⟩
  obtain ⟨x5,e5⟩:∃ q,xs 5=q:=⟨_,rfl⟩
  obtain ⟨x6,e6⟩:∃ q,xs 6=q:=⟨_,rfl⟩
  simp only [e6] at R;simp only [e2,e5,e6];obtain ⟨pa,na,ca,pb,nb,cb,rfl,hs,ht⟩:=R;clear e2 e5 e6 hf CI CF a0 a1 k0;obtain ⟨HF,r0,r1,r2,r3,z0,z1⟩:=d_5 XR J ac hs ht (by omega);clear hs ht;go_wp2;exact bodyPost_ret (v:=.agg #[.slice pa na ca,.slice pb nb cb]) (by simp [results,Tryz.results71,go_sem,z0,z1]) rfl ⟨_,rfl,HF.out⟩
theorem j_Y (B L:Nat) (ns:List Nd) (nd:Nd) (pa pb:Option Addr) (na ca nb cb:Nat) (ae:ns.length < 512) (w:World) (hT:TapC w B L ns) (hs:OwnK .i64 3 w B (.slice pa na ca) nd.D) (ht:OwnK .i64 23 w B (.slice pb nb cb) nd.X):
  Calls Tryz.prog 98 #[.pointer (some ⟨L,0,none⟩),.agg #[.int .i64 nd.op,.int .i64 nd.a,.int .i64 nd.b,.int .i64 nd.k,.slice pa na ca,.slice pb nb cb]] w fun e w'=>e = .returned (.int .i64 (ns.length:Int))/\TapC w' B L (ns++[nd])/\Below B w w'/\Only SC w w'/\Spare L w w'/\∀ H,OwnK .i64 3 w H (.slice pa na ca) nd.D->SpA H L w w':=by
 obtain ⟨op,a,bb,k,D,X⟩:=nd;have ag:Hid (TapC w B L ns):=hT;obtain ⟨R,U,aa,hv,ho,af,ah⟩:=Tap.head hT;obtain ⟨N,eN⟩:∃ N,ns.length=N:=⟨_,rfl⟩
 rw [eN] at hv ho ah;have ao:=(b_H hv).1;have hz:=a_i hv;rw [eN];have hl:Hid (N < 512):=by show _ < _;rw [<- eN];exact ae
 have aq:Hid (B<=w.heap.size):=Nat.le_trans ag.out.1 (Nat.le_of_lt hz);have HS:Hid (OwnK .i64 3 w B (.slice pa na ca) D/\OwnK .i64 23 w B (.slice pb nb cb) X):=⟨hs,ht⟩
 clear hT hv ho af ah hs ht ae ao hz U aa R;go_enter Tryz.func98,Tryz.ntmps98;go_wp2_with fail
 refine a_P (fun M am=>?_);have aA:M.heap[w.heap.size]?=some (.cells #[.int .i64 op,.int .i64 a,.int .i64 bb,.int .i64 k,.slice pa na ca,.slice pb nb cb] 109 (0,0)):=by rw [am];exact heap_alloc_new _ _
 have J:Below w.heap.size w M:=by rw [am];exact a_b _ _
 have ac:Hid (Below B w M/\B<=M.heap.size/\Only SC w M/\Spare L w M/\Below w.heap.size w M):=⟨J.mono aq.out,Nat.le_trans aq.out J.size,Only.of J,Spare.of J,J⟩
 have aj:Hid (NdC M B ⟨op,a,bb,k,D,X⟩ [.int .i64 op,.int .i64 a,.int .i64 bb,.int .i64 k,.slice pa na ca,.slice pb nb cb]):=⟨_,_,rfl,HS.out.1.up J,HS.out.2.up J⟩
 have av:=ag.out.up J;obtain ⟨R,U,aa,hv,ho,af,ah⟩:=Tap.head av;rw [eN] at hv ho;have I:Hid (B<=L/\M.heap[L]?=some (.cells #[.slice R N U] 90 (0,0))/\ns.length=N/\M.ownsRow B 109 6 (.slice R N U) N aa/\NdsC M B ns aa):=⟨ag.out.1,hv,eN,ho,af⟩
 have ab:∀ z,Value.ownBlock (.slice R N U)=some z->z < w.heap.size:=fun z ak=>by
  have h3:=ag.out;obtain ⟨aK,aL,aM,an,ax,_,_⟩:=Tap.head h3;rw [eN] at an ax;have h4:=J.block L (a_i an);rw [hv,an] at h4;cases h4;exact (World.ownsRow.lt ax z ak).2
 have ap:Hid (M.heap[w.heap.size]?=some (.cells #[.int .i64 op,.int .i64 a,.int .i64 bb,.int .i64 k,.slice pa na ca,.slice pb nb cb] 109 (0,0))/\some w.heap.size≠Value.ownBlock (.slice R N U)):=⟨aA,fun h=>by have:=ab _ h.symm;omega⟩
 have aF:Hid (∀ z,Value.ownBlock (.slice R N U)=some z->z < M.heap.size):=fun z ak=>Nat.lt_of_lt_of_le (ab z ak) J.size;have aE:Hid (∀ z∈([.int .i64 op,.int .i64 a,.int .i64 bb,.int .i64 k,.slice pa na ca,.slice pb nb cb]:List Value),z.oneCell'=true):=aj.out.one;clear hv ho af ah ab am av J aA HS;refine d_O (by kernel_rfl) ?_;refine seg (fun q W=>match q with|false=>Below M.heap.size M W|true=>M.grownBy W (Value.ownBlock (.slice R N U))) (fun W W'=>W.grownBy W' (Value.ownBlock (.slice R N U))) 7 [⟨6,11,LitS 109 M.heap.size [.int .i64 op,.int .i64 a,.int .i64 bb,.int .i64 k,.slice pa na ca,.slice pb nb cb]⟩,⟨7,12,OwnL 109 B (N+1) (aa++[.int .i64 op,.int .i64 a,.int .i64 bb,.int .i64 k,.slice pa na ca,.slice pb nb cb]) (Value.ownBlock (.slice R N U)) M.heap.size⟩] 0 10 21 rfl rfl (by kernel_rfl) (by rfl) ?_ ?_ ?_ ?_ ?_ ?_
 ·intro q W W' h hb;cases q
  ·exact a_c h hb
  ·exact g_N h hb
 ·exact ⟨rfl,rfl,rfl,Nat.le_refl _,fun _ _=>rfl⟩
 ·exact .inl ⟨_,List.mem_cons_of_mem _ List.mem_cons_self,rfl⟩
 ·intro e he v W W' h hb;simp only [List.mem_cons,List.not_mem_nil,or_false] at he;rcases he with rfl|rfl
  ·exact LitS.up h hb
  ·exact OwnL.up h hb
 ·intro e he aI v W W' h hc ht;simp only [List.mem_cons,List.not_mem_nil,or_false] at he;rcases he with rfl|rfl
  ·exact LitS.grown h ht aF.out
  ·exact absurd rfl aI
 apply Exists.intro;refine ⟨fun x=>?_,?_,?_⟩
 ·simp only [List.drop_succ_cons,List.drop_zero,List.take_succ_cons,List.take_zero]
  iterate 4
   refine b_Q rfl rfl ?_;apply Exists.intro;refine ⟨fun b F hF hf K hK=>?_,?_⟩
   ·have hFc:=hF.cls
    go_big_quiet_op
    exact hK
   (try simp only [c_J])
  refine b_Q rfl rfl ?_;apply Exists.intro;refine ⟨fun b F hF hf K hK=>?_,?_⟩
  ·have hFc:=hF.cls
   have q0:∀ d,(F d).cell? ⟨L,0,none⟩=some (.slice R N U):=fun d=>by
    have hK:M.grownBy (F d) (Value.ownBlock (.slice R N U)):=by
     cases b
     ·exact b_d _ (hFc d)
     ·exact hFc d
    exact hK.cell (b_H I.out.2.1).1 (Ne.symm (d_6 o_k I.out.2.1 I.out.2.2.2.1))
   clear hFc
   go_big_quiet_op
   exact hK
  (try simp only [c_J])
  refine b_Q rfl rfl ?_;apply Exists.intro;refine ⟨fun b F hF hf K hK=>?_,?_⟩
  ·have hFc:=hF.cls
   have q0:∀ d,(F d).heap[w.heap.size]?=some (.cells #[.int .i64 op,.int .i64 a,.int .i64 bb,.int .i64 k,.slice pa na ca,.slice pb nb cb] 109 (0,0)):=fun d=>by
    have hK:M.grownBy (F d) (Value.ownBlock (.slice R N U)):=by
     cases b
     ·exact b_d _ (hFc d)
     ·exact hFc d
    rw [hK.block _ (a_i ap.out.1) ap.out.2];exact ap.out.1
   have q1:=fun d=>(g_m (q0 d)).1.1;have q2:=fun d=>(g_m (q0 d)).1.2.1;have q3:=fun d=>(g_m (q0 d)).1.2.2.1;have q4:=fun d=>(g_m (q0 d)).1.2.2.2.1;have q5:=fun d=>(g_m (q0 d)).1.2.2.2.2.1;have q6:=fun d=>(g_m (q0 d)).1.2.2.2.2.2;clear hFc q0
   go_big_quiet_op
   exact hK
  (try simp only [c_J])
  refine i_G rfl (by decide) rfl ?_ ?_
  ·intro b F hF hf d;have hFc:=hF.cls
   have ar:M.heap.size<=(F d).heap.size:=by
    cases b
    ·exact (hFc d).size
    ·exact (hFc d).size
   simp [a_k,a_g,go_sem];exact ⟨⟨(F d).heap.size,rfl,heap_alloc_new (F d) _,ar⟩,a_b _ _⟩
  (try simp only [c_J])
  refine i_H rfl rfl rfl ?_ ?_
  ·intro W hW hf;have h7:=hf _ List.mem_cons_self (by rfl) W;obtain ⟨g7,e7,aC,_⟩:=h7;simp only [] at e7;obtain ⟨g8,c8,w8,aJ,aD,ai,V⟩:=t_K s_6 (by decide) 88 W B (.slice R N U) N aa (a_A (S:=[]) I.out.2.2.2.1 (Only.of hW) (by simp)) g7 [.int .i64 op,.int .i64 a,.int .i64 bb,.int .i64 k,.slice pa na ca,.slice pb nb cb] aC rfl aE.out (by have:=hl.out;omega) (Nat.le_trans I.out.1 (Nat.le_trans (Nat.le_of_lt (a_i I.out.2.1)) (Below.size hW)));simp [d_f,c_A,execOp,resolve,invoke,builtin,Act.eval,e7,aJ,Result.andThen];exact ⟨⟨aD,g8,c8,rfl,V.imp id fun e=>by rw [e];exact Below.size hW⟩,d_N (b_d _ hW) ai,ai⟩
  iterate 2
   (try simp only [c_J])
   refine b_Q rfl rfl ?_;apply Exists.intro;refine ⟨fun b F hF hf K hK=>?_,?_⟩
   ·have hFc:=hF.cls
    go_big_quiet_op
    exact hK
  (try simp only [c_J])
  refine m_o ?_;exact rfl
 ·exact fun x=>rfl
 ·intro w8 aB ay az;have O:M.grownBy w8 (Value.ownBlock (.slice R N U)):=ay;refine f_H 10 (by kernel_rfl) ?_;simp only [List.drop_succ_cons,List.drop_zero];have h8:=az _ (List.mem_cons_of_mem _ List.mem_cons_self);obtain ⟨x6,e6⟩:∃ z,aB 6=z:=⟨_,rfl⟩
  obtain ⟨x7,e7⟩:∃ z,aB 7=z:=⟨_,rfl⟩
  simp only [e7] at h8;simp only [e6,e7];obtain ⟨h8,g8,c8,rfl,V⟩:=h8;obtain ⟨au,aw⟩:=Tap.push (TT:=90) (NT:=109) o_k (by decide) (by decide) (nd:=⟨op,a,bb,k,D,X⟩) I.out.1 I.out.2.1 (by rw [I.out.2.2.1];exact I.out.2.2.2.1) I.out.2.2.2.2 aj.out O (by rw [I.out.2.2.1];exact h8)
  have ad:w8.heap[L]?=some (.cells #[.slice R N U] 90 (0,0)):=by
   rw [O.block L (a_i I.out.2.1) (Ne.symm (d_6 o_k I.out.2.1 I.out.2.2.2.1))];exact I.out.2.1
  obtain ⟨r0,r1⟩:=b_H ad;have z0:=(b_H (v:=.slice (some ⟨g8,0,none⟩) (N+1) c8) (e:=90) (W:=w8.setCell ⟨L,0,none⟩ (.slice (some ⟨g8,0,none⟩) (N+1) c8)) (by rw [a_m ad];rfl)).1
  have HF:Hid (TapC (w8.setCell ⟨L,0,none⟩ (.slice (some ⟨g8,0,none⟩) (N+1) c8)) B L (ns++[⟨op,a,bb,k,D,X⟩])/\Below B w (w8.setCell ⟨L,0,none⟩ (.slice (some ⟨g8,0,none⟩) (N+1) c8))/\Only SC w (w8.setCell ⟨L,0,none⟩ (.slice (some ⟨g8,0,none⟩) (N+1) c8))/\Spare L w (w8.setCell ⟨L,0,none⟩ (.slice (some ⟨g8,0,none⟩) (N+1) c8))/\∀ H,OwnK .i64 3 w H (.slice pa na ca) D->SpA H L w (w8.setCell ⟨L,0,none⟩ (.slice (some ⟨g8,0,none⟩) (N+1) c8))):=by
   refine ⟨au,(Below.grown ac.out.1 O ac.out.2.1 (k_I I.out.2.2.2.1)).setCell (p:=⟨L,0,none⟩) I.out.1 _,ac.out.2.2.1.trans aw,ac.out.2.2.2.1.trans ?_,fun H hH x hx ha=>q_s I.out.2.1 I.out.2.2.2.1 (by rw [I.out.2.2.2.2.1,I.out.2.2.1]) ad h8 rfl (m_v hH hx) (ha.up ac.out.2.2.2.2)⟩;intro x v hv hn hx ho;rw [I.out.2.1] at hv;cases hv;refine ⟨?_,_,(a_m ad).trans rfl,?_⟩
   ·rw [a_T _ _ _ _ _ hn];exact O.block x hx (Ne.symm ho)
   ·intro e;have e':g8=x:=by simpa [Value.ownBlock] using e
    rcases V with h|h
    ·exact ho (by rw [h,e'])
    ·omega
  clear au aw ay O h8 az ad V;have aG:((N+1:Nat):Int) - 1=(N:Int):=by omega
  have aH:wrap64 (N:Int)=(N:Int):=by have:=hl.out;unfold wrap64;omega
  go_wp2;exact bodyPost_ret (v:=.int .i64 (N:Int)) (by simp [results,Tryz.results98,go_sem,aG,aH]) rfl ⟨rfl,HF.out⟩
theorem k_K (B L:Nat) (ns:List Nd) (p U:Option Addr) (n c V O:Nat) (dd I:List Int) (hd:RI dd) (w:World) (R:TapC w B L ns) (h1:Nums .i64 w (.slice p n c) dd) (h2:Nums .i64 w (.slice U V O) I) (D:512<=ns.length):
  Calls Tryz.prog 82 #[.pointer (some ⟨L,0,none⟩),.agg #[.slice p n c,.slice U V O]] w fun e w'=>e = .returned (.tuple #[.int .i64 (e_N ns dd I),.int .i64 (e_M ns dd I)])/\TapC w' B L (c_B ns dd I)/\Below B w w'/\Only SC w w'/\Spar2 L w w':=by
 have ab:Hid (B<=w.heap.size):=Nat.le_trans R.1 (Nat.le_of_lt (by obtain ⟨_,_,_,hv,_⟩:=Tap.head R;exact a_i hv));have M:Hid (TapC w B L ns):=R;have HN:Hid (Nums .i64 w (.slice p n c) dd/\Nums .i64 w (.slice U V O) I/\RI dd):=⟨h1,h2,hd⟩
 have hf:decide (512<=ns.length)=true:=decide_eq_true D;have e1:e_M ns dd I=2:=if_pos D;have e2:e_N ns dd I=0:=if_neg fun h=>by omega
 have e3:c_B ns dd I=ns:=if_neg fun h=>by omega
 rw [e1,e2,e3];clear R e1 e2 e3 h1 h2 hd D;go_enter Tryz.func82,Tryz.ntmps82;go_wp2_with fail
 generalize J:World.alloc _ _=W0;have H:=b_C (w:=w) J (by go_grown);have XA:Hid (Cel W0 w.heap.size (.slice p n c) (.slice U V O)):=a_y J (by simp [go_sem]);clear J;refine (c_e B L ns true hf W0 (M.out.up H.out)).mono ?_;rintro e w1 ⟨rfl,aa⟩;subst aa;clear hf;go_wp2;exact bodyPost_ret (v:=.tuple #[.int .i64 0,.int .i64 2]) (by simp [results,Tryz.results82,go_sem]) rfl ⟨rfl,M.out.up H.out,H.out.mono ab.out,Only.of H.out,Spar2.of H.out⟩
theorem m_w (B O:Nat) (ns:List Nd) (p p2:Option Addr) (n c n2 U:Nat) (dd D:List Int) (hd:RI dd) (w:World) (hT:TapC w B O ns) (h1:Nums .i64 w (.slice p n c) dd) (h2:Nums .i64 w (.slice p2 n2 U) D) (J:ns.length < 512) (V:¬ isP dd D):
  Calls Tryz.prog 82 #[.pointer (some ⟨O,0,none⟩),.agg #[.slice p n c,.slice p2 n2 U]] w fun e w'=>e = .returned (.tuple #[.int .i64 (e_N ns dd D),.int .i64 (e_M ns dd D)])/\TapC w' B O (c_B ns dd D)/\Below B w w'/\Only SC w w'/\Spar2 O w w':=by
 have ab:Hid (B<=w.heap.size):=Nat.le_trans hT.1 (Nat.le_of_lt (by obtain ⟨_,_,_,hv,_⟩:=Tap.head hT;exact a_i hv));have R:Hid (TapC w B O ns):=hT;have HN:Hid (Nums .i64 w (.slice p n c) dd/\Nums .i64 w (.slice p2 n2 U) D/\RI dd):=⟨h1,h2,hd⟩
 have hf:decide (512<=ns.length)=false:=decide_eq_false (by omega);have hq:decide (isP dd D)=false:=decide_eq_false V;have e1:e_M ns dd D=1:=(if_neg (by omega)).trans (if_neg V);have e2:e_N ns dd D=0:=if_neg fun h=>V h.2;have e3:c_B ns dd D=ns:=if_neg fun h=>V h.2;rw [e1,e2,e3];clear hT e1 e2 e3 h1 h2 hd J V;go_enter Tryz.func82,Tryz.ntmps82;go_wp2_with fail
 generalize L:World.alloc _ _=W0;have H:=b_C (w:=w) L (by go_grown);have XA:Hid (Cel W0 w.heap.size (.slice p n c) (.slice p2 n2 U)):=a_y L (by simp [go_sem]);clear L;refine (c_e B O ns false hf W0 (R.out.up H.out)).mono ?_;rintro e w1 ⟨rfl,aa⟩;subst aa;clear hf;obtain ⟨a0,a1,_,_⟩:=XA.out;have k0:=a_a a0;go_wp2_with fail
 refine (a_D (.slice p n c) (.slice p2 n2 U) dd D HN.out.2.2 w1 (HN.out.1.up H.out) (HN.out.2.1.up H.out)).mono ?_;rintro e w2 ⟨rfl,M⟩;rw [hq];have I:=a_M (a_c H.out M) M;clear M;clear hq;go_wp2;exact bodyPost_ret (v:=.tuple #[.int .i64 0,.int .i64 1]) (by simp [results,Tryz.results82,go_sem]) rfl ⟨rfl,R.out.up I.out.1,I.out.1.mono ab.out,Only.of I.out.1,Spar2.of I.out.1⟩
theorem k_L (B M:Nat) (ns:List Nd) (p p2:Option Addr) (n c n2 V:Nat) (dd H:List Int) (hd:RI dd) (w:World) (hT:TapC w B M ns) (h1:Nums .i64 w (.slice p n c) dd) (h2:Nums .i64 w (.slice p2 n2 V) H) (D:ns.length < 512) (hp:isP dd H):
  Calls Tryz.prog 82 #[.pointer (some ⟨M,0,none⟩),.agg #[.slice p n c,.slice p2 n2 V]] w fun e w'=>e = .returned (.tuple #[.int .i64 (e_N ns dd H),.int .i64 (e_M ns dd H)])/\TapC w' B M (c_B ns dd H)/\Below B w w'/\Only SC w w'/\Spar2 M w w':=by
 have U:Hid (B<=w.heap.size):=Nat.le_trans hT.1 (Nat.le_of_lt (by obtain ⟨_,_,_,hv,_⟩:=Tap.head hT;exact a_i hv));have ac:Hid (TapC w B M ns):=hT;have HN:Hid (Nums .i64 w (.slice p n c) dd/\Nums .i64 w (.slice p2 n2 V) H/\RI dd):=⟨h1,h2,hd⟩
 have hf:decide (512<=ns.length)=false:=decide_eq_false (by omega);have hq:decide (isP dd H)=true:=decide_eq_true hp;have HP:Hid (isP dd H/\ns.length < 512):=⟨hp,D⟩
 have e1:e_M ns dd H=0:=(if_neg (by omega)).trans (if_pos hp);have e2:e_N ns dd H=(ns.length:Int):=if_pos ⟨D,hp⟩;have e3:c_B ns dd H=ns++[⟨1,-1,-1,0,dd,H⟩]:=if_pos ⟨D,hp⟩;rw [e1,e2,e3];clear hT e1 e2 e3 h1 h2 hd D hp;go_enter Tryz.func82,Tryz.ntmps82;go_wp2_with fail
 generalize O:World.alloc _ _=W0;have L:=b_C (w:=w) O (by go_grown);have XA:Hid (Cel W0 w.heap.size (.slice p n c) (.slice p2 n2 V)):=a_y O (by simp [go_sem]);clear O;refine (c_e B M ns false hf W0 (ac.out.up L.out)).mono ?_;rintro e w1 ⟨rfl,ag⟩;subst ag;clear hf;obtain ⟨a0,a1,_,_⟩:=XA.out;have k0:=a_a a0;go_wp2_with fail
 refine (a_D (.slice p n c) (.slice p2 n2 V) dd H HN.out.2.2 w1 (HN.out.1.up L.out) (HN.out.2.1.up L.out)).mono ?_;rintro e w2 ⟨rfl,R⟩;rw [hq];have I:=a_M (a_c L.out R) R;clear R;clear hq;replace a0:=a_d a0 I.out.2;replace a1:=a_d a1 I.out.2;replace k0:=a_a a0;go_wp2_with fail
 refine (f_L p p2 n c n2 V dd H HP.out.1 w2 (HN.out.1.up I.out.1) (HN.out.2.1.up I.out.1)).mono ?_;rintro e w3 ⟨v3,rfl,⟨s3,t3,rfl,hs,ht⟩,ae⟩;obtain ⟨pa,na,ca,rfl⟩:=hs.form_;obtain ⟨pb,nb,cb,rfl⟩:=ht.form_;have J:Hid (Below w.heap.size w w3):=a_c I.out.1 ae;have HO:Hid (OwnK .i64 3 w3 B (.slice pa na ca) dd/\OwnK .i64 23 w3 B (.slice pb nb cb) H/\OwnK .i64 3 w3 w.heap.size (.slice pa na ca) dd):=⟨hs.low (Nat.le_trans U.out I.out.1.size),ht.low (Nat.le_trans U.out I.out.1.size),hs.low I.out.1.size⟩
 clear hs ht ae a0 a1 k0;go_wp2_with fail
 refine (j_Y B M ns ⟨1,-1,-1,0,dd,H⟩ pa pb na ca nb cb HP.out.2 w3 (ac.out.up J.out) HO.out.1 HO.out.2.1).mono ?_;rintro e w4 ⟨rfl,aa,ab,ad,af⟩;have HF:Hid (TapC w4 B M (ns++[⟨1,-1,-1,0,dd,H⟩])/\Below B w w4/\Only SC w w4/\Spar2 M w w4):=⟨aa,h_Y (J.out.mono U.out) ab,(Only.of J.out).trans ad,Spar2.kept J.out af HO.out.2.2⟩
 clear aa ab ad af HO;go_wp2;exact bodyPost_ret (v:=.tuple #[.int .i64 (ns.length:Int),.int .i64 0]) (by simp [results,Tryz.results82,go_sem]) rfl ⟨rfl,HF.out⟩
theorem j_Z (B H:Nat) (ns:List Nd) (hG:NodesG ns) (p I:Option Addr) (n c L J:Nat) (dd D:List Int) (V:RI dd) (hy:RI D) (w:World) (U:TapC w B H ns) (O:Nums .i64 w (.slice p n c) dd) (R:Nums .i64 w (.slice I L J) D):
  Calls Tryz.prog 82 #[.pointer (some ⟨H,0,none⟩),.agg #[.slice p n c,.slice I L J]] w fun e M=>e = .returned (.tuple #[.int .i64 (e_N ns dd D),.int .i64 (e_M ns dd D)])/\TapC M B H (c_B ns dd D)/\Below B w M/\Only SC w M/\Spar2 H w M:=by
 by_cases hf:512<=ns.length
 ·exact k_K B H ns p I n c L J dd D V w U O R hf
 ·by_cases hp:isP dd D
  ·exact k_L B H ns p I n c L J dd D V w U O R (by omega) hp
  ·exact m_w B H ns p I n c L J dd D V w U O R (by omega) hp
theorem NodesG.lyF {ns sts:List Nd} (h:NodesG ns) (D:∀ i,RI (stA sts i).X):∀ i,NodesG (lyF sts ns i).2.1
 | 0=>h
 | i+1=>by
  show NodesG (if (Wd.lyF sts ns i).1=0 then (lsE (Wd.lyF sts ns i).2.1 (stA sts i),lsN (Wd.lyF sts ns i).2.1 (stA sts i),lsR (Wd.lyF sts ns i).2.1 (stA sts i)) else Wd.lyF sts ns i).2.1
  split
  ·exact (NodesG.lyF h D i).ls (D i)
  ·exact NodesG.lyF h D i
theorem NodesG.lo {ns sts:List Nd} {e:Int} (h:NodesG ns) (D:∀ i,RI (stA sts i).X):NodesG (loN e ns sts):=by
 unfold loN
 split
 ·unfold lyM
  split
  ·exact NodesG.lyF h D _
  ·exact h
 ·exact h
theorem s_7 {N o:Int} {y:List Int} (D:RI y):∀ i,RI (stA (sqS N o y) i).X
 | 0=>D
 | 1=>b_N
 | 2=>b_N
 | 3=>b_N
 | _+4=>b_N
theorem s_8 {N o:Int} {y:List Int} (D:RI y):∀ i,RI (stA (szS N o y) i).X
 | 0=>D
 | 1=>b_N
 | 2=>b_N
 | 3=>b_N
 | _+4=>b_N
theorem m_x {m:Nat} {a c t:Int} (H:InR a) (D:InR t):RI (j_X m a c t):=fun y I=>by
 rcases List.mem_or_eq_of_mem_set I with h|h
 ·rw [(List.mem_replicate.1 h).2];exact H
 ·rw [h];exact D
theorem s_9 {N o:Int} {n:Nat} {c:Int}:∀ i,RI (stA (hgS N o n c) i).X
 | 0=>m_x (by unfold InR;omega) (by unfold InR;omega)
 | 1=>m_x (by unfold InR;omega) (by unfold InR;omega)
 | 2=>b_N
 | 3=>b_N
 | 4=>b_N
 | 5=>b_N
 | 6=>b_N
 | 7=>b_N
 | 8=>b_N
 | _+9=>b_N
/-- Two tapes that share no block. -/
def t_a (W:World) (tb ub:Nat):Prop:=tb≠ub/\∃ v v',W.heap[tb]?=some (.cells #[v] 90 (0,0))/\W.heap[ub]?=some (.cells #[v'] 90 (0,0))/\v.ownBlock≠some ub/\v'.ownBlock≠some tb/\∀ g,v.ownBlock=some g->v'.ownBlock≠some g
/-- Two tapes of a law's own. -/
structure Two (w W:World) (Bt tb:Nat) (ms:List Nd) (Bu ub:Nat) (us:List Nd):Prop where
 t:TapC W Bt tb ms
 u:TapC W Bu ub us
 a:t_a W tb ub
 b:Below w.heap.size w W
 lt:w.heap.size<=Bt
 lu:w.heap.size<=Bu
/-- A box that holds a tensor of one number. -/
def VBox (W:World) (b:Nat) (A:Int):Prop:=∃ s g c,W.heap[b]?=some (.cells #[s,.slice (some ⟨g,0,none⟩) 1 c] 64 (0,0))/\W.cell? ⟨g,0,none⟩=some (.int .i64 A)
theorem VBox.cells {W:World} {b:Nat} {A:Int} (h:VBox W b A):∃ g c,W.cell? ⟨b,1,none⟩=some (.slice (some ⟨g,0,none⟩) 1 c)/\W.cell? ⟨g,0,none⟩=some (.int .i64 A)/\b < W.heap.size/\g < W.heap.size:=by
 obtain ⟨s,g,c,D,H⟩:=h;exact ⟨g,c,by unfold World.cell?;simp [D],H,a_i D,a_a H⟩
theorem VBox.new {W:World} {B g c:Nat} {s:Value} {A:Int} (h:OwnK .i64 23 W B (.slice (some ⟨g,0,none⟩) 1 c) [A]):VBox (W.alloc (.cells #[s,.slice (some ⟨g,0,none⟩) 1 c] 64)) W.heap.size A:=
 ⟨s,g,c,heap_alloc_new _ _,a_d (h.cell rfl 0 (by decide)).1 (a_b _ _)⟩
end Go.Proofs.YtjlofobnmjompaaGreatDoor.Wd
