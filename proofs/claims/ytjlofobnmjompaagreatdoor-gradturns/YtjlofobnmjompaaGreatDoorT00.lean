/- A slice of integers that came in: what a walk is told of it. Slices of integers of any kind: what they hold; made, appended to, stored into. Nothing of the program is named here. A slice of the call's own stays what it is while memory grows. Nothing of the program is named here. All blocks but one stand, while memory grows. Nothing of the program is named here. · Shapes, as lists of numbers: sizes, places, what two spread to, what is spread where, how often. Nothing of the program is named here. Shapes: what two spread to, what is spread where, and how often. Nothing of the program is named he -/
import Derived.WalkKit
import Derived.ProofKit
import Derived.OpenShut
import Derived.ChangeSlices
import Derived.Carry
import Derived.WalkSpells
import Derived.Handy
import Derived.Deep.AppendSrc
import Derived.OwnWalk
import Derived.Laws.AppendOwnNone
import Derived.Laws.OwnMore
import Derived.OneCell
import Derived.RowKit
import Derived.Test.YtjlofobnmjompaaGreatDoorProg
import Derived.Deep.LoopGhost
import Derived.Deep.Draws
import Derived.BigQuiet
import Derived.Deep.QuietTactic
import Derived.WalkSmall
set_option linter.unusedVariables false
set_option linter.unusedSimpArgs false
set_option maxHeartbeats 16000000
set_option maxRecDepth 16000
namespace Go.Proofs.YtjlofobnmjompaaGreatDoor.Wd
open Go.ChangeShapes Go.WideShapes Go.ChangeAt Go.RowKit
/-- The slice's elements are the numbers z 0, z 1 .. , each fitting its kind; where it has one, they lie one behind the other in a block. -/
def Row (k:IntKind) (W:World) (p:Option Addr) (n c:Nat) (z:Nat->Int):Prop:=
 n<=c/\c<=9223372036854775807/\(∀ i,i < n->(Lit.int k (z i)).wf=true)/\(0 < n->∃ b o,p=some ⟨b,o,none⟩/\b < W.heap.size/\∀ i,i < n->W.cell? ⟨b,o+i,none⟩=some (.int k (z i)))
theorem c_2 {W:World} {a:Addr} {v:Value} (h:W.cell? a=some v):a=⟨a.block,a.off,none⟩:=by
 unfold World.cell? at h
 split at h
 ·obtain ⟨b,o,s⟩:=a;cases s with
  | none=>rfl
  | some x=>simp at h
 ·cases h
theorem a_f {W:World} {b o:Nat} {v:Value} (h:W.cell? ⟨b,o,none⟩=some v):b < W.heap.size:=by
 by_cases c:b < W.heap.size
 ·exact c
 ·exfalso;unfold World.cell? at h;rw [show W.heap[b]?=none from by simp;omega] at h;simp at h
theorem n_m {H:Type} {enc:TypeId×Value->H} {P:Program} {W:World} {t e:TypeId} {k:IntKind} {a:Option Addr} {n c:Nat} {d:DataW H} {ps:List MemPlace} (ht:P.underlying t=some (.slice e)) (he:P.underlying e=some (.int k)) (hc:P.cellsOf e=1)
  (h:DataW.Trod enc P W 0 (fun _=>true) true t (.slice a n c) d ps):∃ z,Row k W a n c z:=by
 obtain ⟨fuel,hf⟩:=h;rcases open_ints ht he hc hf with ⟨I,_⟩|⟨x,l,c',zs,I,_,hl,hm,R,_,D,M⟩
 ·simp [Value.cells] at I;obtain ⟨rfl,rfl,rfl⟩:=I;exact ⟨fun _=>0,by omega,by omega,fun i O=>by omega,fun h=>by omega⟩
 ·simp [Value.cells] at I;obtain ⟨rfl,rfl,rfl⟩:=I;have V:zs.length=c:=by simpa using R
  refine ⟨fun i=>zs.getD i 0,hl,by unfold maxLen at hm;omega,fun i O=>M _ ?_,fun h=>?_⟩
  ·show zs.getD i 0∈zs;rw [List.getD_eq_getElem?_getD,List.getElem?_eq_getElem (by omega)];exact List.getElem_mem _
  ·have L:=D 0 (by omega);have U:x.add 0=x:=by simp [Addr.add]
   rw [U] at L;have J:=c_2 L;refine ⟨x.block,x.off,by rw [<- J],?_,fun i O=>?_⟩
   ·rw [J] at L;exact a_f L
   ·have:=D i (by omega);rw [<- this]
    congr 1
    unfold Addr.add
    split
    ·rename_i h;subst h;rw [Nat.add_zero];exact J.symm
    ·rw [J]
/-- The same, and a nil slice has no room. -/
def RowN (k:IntKind) (W:World) (p:Option Addr) (n c:Nat) (z:Nat->Int):Prop:=Row k W p n c z/\(p=none->n=0/\c=0)
theorem open_rowN {H:Type} {enc:TypeId×Value->H} {P:Program} {W:World} {t e:TypeId} {k:IntKind} {a:Option Addr} {n c:Nat} {d:DataW H} {ps:List MemPlace} (J:P.underlying t=some (.slice e)) (he:P.underlying e=some (.int k)) (I:P.cellsOf e=1)
  (h:DataW.Trod enc P W 0 (fun _=>true) true t (.slice a n c) d ps):∃ z,RowN k W a n c z:=by
 obtain ⟨z,L⟩:=n_m J he I h;refine ⟨z,L,fun M=>?_⟩;subst M;obtain ⟨fuel,hf⟩:=h;rcases open_ints J he I hf with ⟨D,_⟩|⟨x,l,O,zs,D,_⟩
 ·simp [Value.cells] at D;exact D
 ·simp [Value.cells] at D
end Go.Proofs.YtjlofobnmjompaaGreatDoor.Wd
namespace Go.Proofs.YtjlofobnmjompaaGreatDoor.Wd
open Go.RowKit
theorem c_u {W:World} {a:Addr} {v:Value} (h:W.cell? a=some v):a.block < W.heap.size:=by
 by_cases c:a.block < W.heap.size
 ·exact c
 ·exfalso;unfold World.cell? at h;rw [show W.heap[a.block]?=none from by simp;omega] at h;simp at h
theorem a_u (b o j:Nat):(⟨b,o,none⟩:Addr).add j=⟨b,o+j,none⟩:=by
 unfold Addr.add
 split
 ·rename_i h;rw [h,Nat.add_zero]
 ·rfl
theorem a_h {W W':World} {a:Addr} {v:Value} (hb:Below W.heap.size W W') (h:W.cell? a=some v):W'.cell? a=some v:=by
 rw [hb.cell (p:=a) (c_u h)];exact h
def b_c (k:IntKind) (l:List Int):List Value:=l.map (Value.int k)
theorem g_v (k:IntKind) (l:List Int):∀ u∈b_c k l,u.oneCell'=true:=by
 intro u D;obtain ⟨x,_,rfl⟩:=List.mem_map.1 D;rfl
theorem n_n (k:IntKind) (l:List Int) (j:Nat) (x:Int):(b_c k l).set j (.int k x)=b_c k (l.set j x):=by
 unfold b_c;rw [List.map_set]
theorem g_w (k:IntKind) (l:List Int) (j:Nat) (h:j < l.length):(b_c k l)[j]?=some (.int k (l.getD j 0)):=by
 unfold b_c;rw [List.getElem?_map,List.getElem?_eq_getElem h,List.getD_eq_getElem?_getD,List.getElem?_eq_getElem h];rfl
/-- The slice's numbers are these. -/
def Nums (k:IntKind) (W:World) (v:Value) (l:List Int):Prop:=
 (v = .slice none 0 0/\l = [])∨∃ ad c,v = .slice (some ad) l.length c/\∀ j u,(b_c k l)[j]?=some u->W.cell? (ad.add j)=some u
theorem Nums.up {k:IntKind} {W W':World} {v:Value} {l:List Int} (h:Nums k W v l) (hb:Below W.heap.size W W'):Nums k W' v l:=by
 rcases h with h|⟨H,c,rfl,h⟩
 ·exact .inl h
 ·exact .inr ⟨H,c,rfl,fun j u D=>a_h hb (h j u D)⟩
theorem Nums.view {k:IntKind} {W:World} {v:Value} {l:List Int} (h:Nums k W v l):∃ p c,v = .slice p l.length c/\∀ j,j < l.length->∃ q o,p=some ⟨q,o,none⟩/\W.cell? ⟨q,o+j,none⟩=some (.int k (l.getD j 0)):=by
 rcases h with ⟨rfl,rfl⟩|⟨I,c,rfl,h⟩
 ·exact ⟨none,0,rfl,fun j H=>by simp at H⟩
 ·refine ⟨_,c,rfl,fun j H=>?_⟩;have J:=h 0 _ (g_w k l 0 (by omega));have D:=h j _ (g_w k l j H);have:=c_2 (show W.cell? I=_ from J);obtain ⟨q,o,L⟩:=I;cases this;rw [a_u] at D;exact ⟨q,o,rfl,D⟩
/-- A slice that came in, as a list. -/
def k_8 (n:Nat) (z:Nat->Int):List Int:=(List.range n).map z
theorem j_d (n:Nat) (z:Nat->Int):(k_8 n z).length=n:=by simp [k_8]
theorem n_o (n:Nat) (z:Nat->Int) (j:Nat) (h:j < n):(k_8 n z)[j]?=some (z j):=by simp [k_8,h]
theorem RowN.wf {k:IntKind} {W:World} {p:Option Addr} {n c:Nat} {z:Nat->Int} (h:RowN k W p n c z):∀ y,y∈k_8 n z->(Lit.int k y).wf=true:=by
 intro y D;obtain ⟨i,H,rfl⟩:=List.mem_map.1 D;exact h.1.2.2.1 i (List.mem_range.1 H)
theorem RowN.nums {k:IntKind} {W:World} {p:Option Addr} {n c:Nat} {z:Nat->Int} (h:RowN k W p n c z):Nums k W (.slice p n c) (k_8 n z):=by
 cases p with
 | none=>
  obtain ⟨rfl,rfl⟩:=h.2 rfl;exact .inl ⟨rfl,rfl⟩
 | some ad=>
  refine .inr ⟨ad,c,by rw [j_d],fun j u I=>?_⟩;unfold b_c at I;rw [List.getElem?_map] at I;obtain ⟨x,H,rfl⟩:=Option.map_eq_some_iff.1 I
  have J:j < n:=by
   rcases Nat.lt_or_ge j n with h|h
   ·exact h
   ·rw [List.getElem?_eq_none (by rw [j_d];exact h)] at H;cases H
  rw [n_o n z j J] at H;cases H;obtain ⟨b,o,e,_,D⟩:=h.1.2.2.2 (by omega);cases e;rw [a_u];exact D j J
/-- A slice of the call's own holds these numbers. -/
def OwnK (k:IntKind) (e:TypeId) (W:World) (B:Nat) (v:Value) (l:List Int):Prop:=W.ownsRow B e 1 v l.length (b_c k l)
theorem OwnK.nums {k:IntKind} {e:TypeId} {W:World} {B:Nat} {v:Value} {l:List Int} (h:OwnK k e W B v l):Nums k W v l:=by
 rcases h.2 with ⟨H,J⟩|⟨g,D,I,rfl,_⟩
 ·exact .inl ⟨H,by simpa using J⟩
 ·exact .inr ⟨⟨g,0,none⟩,D,rfl,World.ownsRow.cells h rfl⟩
theorem OwnK.low {k:IntKind} {e:TypeId} {W:World} {B I:Nat} {v:Value} {l:List Int} (h:OwnK k e W B v l) (J:I<=B):OwnK k e W I v l:=by
 refine ⟨h.1,?_⟩;rcases h.2 with h|⟨g,H,D,L,M,O⟩
 ·exact .inl h
 ·exact .inr ⟨g,H,D,L,Nat.le_trans J M,O⟩
theorem OwnK.block {k:IntKind} {e:TypeId} {W:World} {B:Nat} {v:Value} {l:List Int} (h:OwnK k e W B v l):∀ j,v.ownBlock=some j->B<=j:=by
 intro j D;rcases h.2 with ⟨rfl,_⟩|⟨g,J,I,rfl,H,_⟩
 ·cases D
 ·cases D;exact H
theorem OwnK.nil (k:IntKind) (e:TypeId) (W:World) (B:Nat):OwnK k e W B (.slice none 0 0) []:=⟨by simp [b_c],.inl ⟨rfl,rfl⟩⟩
/-- Where it is not empty, it lies in a block of its own. -/
theorem OwnK.at {k:IntKind} {e:TypeId} {W:World} {B:Nat} {v:Value} {l:List Int} (h:OwnK k e W B v l) (L:0 < l.length):∃ g c,v = .slice (some ⟨g,0,none⟩) l.length c/\B<=g:=by
 rcases h.2 with ⟨_,J⟩|⟨g,D,I,rfl,H,_⟩
 ·omega
 ·exact ⟨g,D,rfl,H⟩
/-- A cell of it is read, and stored into. -/
theorem OwnK.cell {k:IntKind} {e:TypeId} {W:World} {B g n c:Nat} {l:List Int} (h:OwnK k e W B (.slice (some ⟨g,0,none⟩) n c) l) (H:l.length=n) (j:Nat) (D:j < n):W.cell? ⟨g,j,none⟩=some (.int k (l.getD j 0))/\W.frozen? ⟨g,j,none⟩=false:=by
 subst H;exact ⟨by rw [World.ownsRow.cellAt h j (by omega),g_w k l j D],World.ownsRow.frozenAt h j⟩
theorem OwnK.store {k:IntKind} {e:TypeId} {W:World} {B g n c:Nat} {l:List Int} (h:OwnK k e W B (.slice (some ⟨g,0,none⟩) n c) l) (D:l.length=n) (j:Nat) (x:Int):OwnK k e (W.setCell ⟨g,j,none⟩ (.int k x)) B (.slice (some ⟨g,0,none⟩) n c) (l.set j x):=by
 subst D;have:=(World.ownsRow.stored h j (.int k x)).1;unfold OwnK;rw [<- n_n,List.length_set];exact this
/-- The facts of a type of slices of integers. -/
structure NumT (P:Program) (t e:TypeId) (k:IntKind) (b:Nat):Prop where
 ht:P.underlying t=some (.slice e)
 hi:(P.info? e).map (fun i=>(i.zero,i.size,i.bytes))=some (some (.int k 0),1,b)
theorem g_x {P:Program} {t e:TypeId} {k:IntKind} {b:Nat} (T:NumT P t e k b):∃ D,P.info? e=some D/\D.zero=some (.int k 0)/\D.size=1/\D.bytes=b:=by
 have:=T.hi;cases h:P.info? e with
 | none=>rw [h] at this;cases this
 | some i=>
  rw [h] at this;simp only [Option.map_some,Option.some.injEq,Prod.mk.injEq] at this;exact ⟨i,rfl,this.1,this.2.1,this.2.2⟩
/-- append of numbers, whatever they are, behind numbers of the call's own. -/
theorem a_F {P:Program} {t e:TypeId} {k:IntKind} {b:Nat} (T:NumT P t e k b) (ab:b<=8) {ops:Array Oper} {rest:List Oper} {o:Oper} {a:Act} {Q:Exit->Act->World->Prop} {w:World} (M:o.guard=none) (s x:Operand)
  (ho:o.op = .call { callee:=.builtin .append,args:=#[s,x],argTypes:=#[t,t] }) (B:Nat) (L:Value) (H:List Int) (hs:a.eval s=L) (D:OwnK k e w B L H)
  (v:Value) (l:List Int) (hx:a.eval x=v) (hb:Nums k w v l) (J:H.length+l.length<=1073741824) (hB:B<=w.heap.size) (w0:World) (I:Below B w0 w)
  (h:∀ R O,Hid (OwnK k e O B R (H++l))->Below B w0 O->wpList P ops Q rest (a.put o.dst R) O):wpList P ops Q (o :: rest) a w:=by
 obtain ⟨i0,hi,U,aa,V⟩:=g_x T;rcases hb with ⟨rfl,rfl⟩|⟨ad,c,rfl,hc⟩
 ·refine wpList_append_own_none M s x t ho B e i0 1 T.ht hi L H.length _ hs D hx ?_;exact h L w (show OwnK _ _ _ _ _ _ by rw [List.append_nil];exact D) I
 ·have hm:(H.length+l.length)*b<=1073741824*8:=Nat.mul_le_mul J ab;refine wpList_append_own _ M s x t ho B e i0 (.int k 0) 1 b T.ht hi U aa V rfl (by decide) L H.length _ hs D ad l.length c (b_c k l) hx (by simp [b_c]) hc (g_v k l) (by unfold maxLen;omega) (by omega) hB ?_;intro R O h1 h2 h3;refine h R O ?_ (Below.grown I h2 hB D.block);show OwnK _ _ _ _ _ _;unfold OwnK b_c at *;simpa using h1
/-- make: as many noughts. -/
theorem a_z {P:Program} {t e:TypeId} {k:IntKind} {b:Nat} (T:NumT P t e k b) (U:b<=8) (w:World) {ops:Array Oper} {rest:List Oper} {o:Oper} {a:Act} {Q:Exit->Act->World->Prop}
  (hg:o.guard=none) (l c:Operand) (R:o.op=Op.makeSlice t l c) (kl kc:IntKind) (L C:Int) (n:Nat) (hl:a.eval l = .int kl L) (hc:a.eval c = .int kc C) (hL:L=(n:Int)) (hC:C=(n:Int)) (hn:n<=1073741824)
  (B:Nat) (w0:World) (hB:B<=w.heap.size) (O:Below B w0 w)
  (hK:∀ D,Hid (OwnK k e D w.heap.size (.slice (some ⟨w.heap.size,0,none⟩) n n) (List.replicate n 0))->Below w.heap.size w D->Below B w0 D->wpList P ops Q rest (a.put o.dst (.slice (some ⟨w.heap.size,0,none⟩) n n)) D):
  wpList P ops Q (o :: rest) a w:=by
 obtain ⟨i0,hi,I,M,J⟩:=g_x T;have hm:b*n<=8*1073741824:=Nat.mul_le_mul U hn;refine wpList_make_full w hg l c t R w.heap.size e i0 (.int k 0) 1 T.ht hi I M kl kc L C n hl hc hL hC (by rw [J];omega) (by unfold maxLen;omega) (Nat.le_refl _) ?_;intro D V h2;have H:Below w.heap.size w D:=Below.grown (Below.refl _ _) h2 (Nat.le_refl _) (fun j hj=>by cases hj);refine hK D ?_ H (O.trans (H.mono hB));show OwnK _ _ _ _ _ _;unfold OwnK b_c;rw [List.length_replicate,List.map_replicate]
 have e1:(madeCells (Value.int k 0).cells (n*1)).toList=List.replicate n (Value.int k 0):=by
  rw [Nat.mul_one];exact toList_madeCells_one _ _
 rw [e1] at V;exact V
/-- A literal's row. -/
theorem a_3 {k:IntKind} {e:TypeId} (W:World) (l:List Int) (n:Nat) (H:Nat×Nat) (h:l.length=n):Nums k (W.alloc (.cells (b_c k l).toArray e H)) (.slice (some ⟨W.heap.size,0,none⟩) n n) l:=.inr ⟨_,n,by rw [h],by
 intro j u D;rw [a_u,Nat.zero_add];unfold World.cell? World.alloc;simp only [Array.getElem?_push_size];simpa using D⟩
theorem b_5 {k:IntKind} {e:TypeId} (W:World) (l:List Int) (n:Nat) (h:l.length=n) (D:n<=1073741824):OwnK k e (W.alloc (.cells (b_c k l).toArray e)) W.heap.size (.slice (some ⟨W.heap.size,0,none⟩) n n) l:=by
 subst h;refine ⟨by simp [b_c],.inr ⟨W.heap.size,l.length,(b_c k l).toArray,rfl,Nat.le_refl _,?_,Nat.le_refl _,by unfold maxLen;omega,by simp [b_c],by rw [Nat.mul_one,List.take_of_length_le (by simp [b_c])]⟩⟩;show (W.heap.push _)[W.heap.size]?=_;simp
theorem OwnK.up {k:IntKind} {e:TypeId} {W W':World} {B:Nat} {v:Value} {l:List Int} (h:OwnK k e W B v l) (hb:Below W.heap.size W W'):OwnK k e W' B v l:=by
 refine ⟨h.1,?_⟩;rcases h.2 with h|⟨g,H,D,J,L,I,M⟩
 ·exact .inl h
 ·refine .inr ⟨g,H,D,J,L,?_,M⟩
  have O:g < W.heap.size:=by
   rcases Nat.lt_or_ge g W.heap.size with h|h
   ·exact h
   ·rw [Array.getElem?_eq_none h] at I;cases I
  rw [hb.block g O];exact I
structure Stay (g:Nat) (W W':World):Prop where
 size:W.heap.size<=W'.heap.size
 block:∀ b,b≠g->b < W.heap.size->W'.heap[b]?=W.heap[b]?
theorem Stay.refl (g:Nat) (W:World):Stay g W W:=⟨Nat.le_refl _,fun _ _ _=>rfl⟩
theorem Stay.trans {g:Nat} {a b c:World} (h:Stay g a b) (I:Stay g b c):Stay g a c:=
 ⟨Nat.le_trans h.size I.size,fun k H D=>(I.block k H (Nat.lt_of_lt_of_le D h.size)).trans (h.block k H D)⟩
theorem Stay.of {g:Nat} {a b:World} (h:Below a.heap.size a b):Stay g a b:=⟨h.size,fun k _ D=>h.block k D⟩
theorem Stay.up {g:Nat} {a b c:World} (h:Stay g a b) (D:Below b.heap.size b c):Stay g a c:=h.trans (Stay.of D)
theorem Stay.set {g:Nat} {a b:World} (h:Stay g a b) (o:Nat) (x:Value):Stay g a (b.setCell ⟨g,o,none⟩ x):=
 h.trans ⟨by simp,fun k D _=>Below.heap_setCell _ _ _ _ D⟩
theorem Stay.cell {g:Nat} {W W':World} {a:Addr} {v:Value} (h:Stay g W W') (D:W.cell? a=some v) (H:a.block≠g):W'.cell? a=some v:=by
 have hb:=c_u D;unfold World.cell? at D ⊢;rw [h.block _ H hb];exact D
theorem Stay.frozen {g:Nat} {W W':World} {b o:Nat} (h:Stay g W W') (hb:b < W.heap.size) (D:b≠g):W'.frozen? ⟨b,o,none⟩=W.frozen? ⟨b,o,none⟩:=by
 unfold World.frozen?;rw [h.block _ D hb]
/-- A slice whose cells lie in blocks but g. -/
def Off (g:Nat) (v:Value):Prop:=∀ ad n c,v = .slice (some ad) n c->ad.block≠g
theorem Nums.stay {k:IntKind} {g:Nat} {W W':World} {v:Value} {l:List Int} (h:Nums k W v l) (H:Stay g W W') (I:Off g v):Nums k W' v l:=by
 rcases h with h|⟨D,c,rfl,h⟩
 ·exact .inl h
 ·refine .inr ⟨D,c,rfl,fun j u J=>H.cell (h j u J) ?_⟩;have:=I D _ _ rfl;unfold Addr.add
  split <;> exact this
/-- What was there before the block g was made. -/
theorem Nums.off {k:IntKind} {W:World} {v:Value} {l:List Int} (h:Nums k W v l) (H:l≠[]) {g:Nat} (L:W.heap.size<=g):Off g v:=by
 intro D n c e;rcases h with ⟨rfl,_⟩|⟨I,J,rfl,h⟩
 ·cases e
 ·cases e;obtain ⟨x,xs,rfl⟩:∃ x xs,l=x :: xs:=by cases l with|nil=>exact absurd rfl H|cons x xs=>exact ⟨x,xs,rfl⟩
  have:=h 0 (.int k x) rfl;have:=c_u this;intro e;rw [show (D.add 0)=D by unfold Addr.add;simp] at this;omega
theorem OwnK.off {k:IntKind} {e:TypeId} {W:World} {B g:Nat} {v:Value} {l:List Int} (h:OwnK k e W B v l) (O:g < B):Off g v:=by
 intro M n c D;rcases h.2 with ⟨H,_⟩|⟨q,J,I,H,L,_⟩
 ·rw [H] at D;cases D
 ·rw [H] at D;cases D;show q≠g;omega
theorem OwnK.stay {k:IntKind} {e:TypeId} {W W':World} {B g:Nat} {v:Value} {l:List Int} (h:OwnK k e W B v l) (R:Stay g W W') (O:Off g v):OwnK k e W' B v l:=by
 refine ⟨h.1,?_⟩;rcases h.2 with h|⟨q,H,D,J,L,I,M⟩
 ·exact .inl h
 ·refine .inr ⟨q,H,D,J,L,?_,M⟩
  have U:q < W.heap.size:=by
   rcases Nat.lt_or_ge q W.heap.size with h|h
   ·exact h
   ·rw [Array.getElem?_eq_none h] at I;cases I
  rw [R.block q (O _ _ _ J) U];exact I
theorem OwnK.size {k:IntKind} {e:TypeId} {W:World} {B g n c:Nat} {l:List Int} (h:OwnK k e W B (.slice (some ⟨g,0,none⟩) n c) l):g < W.heap.size:=by
 rcases h.2 with ⟨D,_⟩|⟨q,J,I,D,L,H,M⟩
 ·cases D
 ·cases D;rcases Nat.lt_or_ge g W.heap.size with h|h
  ·exact h
  ·rw [Array.getElem?_eq_none h] at H;cases H
def a_e:List Nat->Nat
 | []=>1
 | d :: ds=>d*a_e ds
theorem a_E:∀ a b:List Nat,a_e (a++b)=a_e a*a_e b
 | [],b=>by simp [a_e]
 | d :: a,b=>by simp [a_e,a_E a b,Nat.mul_assoc]
theorem a_C:∀ {d:List Nat},(∀ x,x∈d->1<=x)->1<=a_e d
 | [],_=>Nat.le_refl _
 | x :: d,h=>by
  have D:=h x List.mem_cons_self;have H:=a_C (d:=d) fun y I=>h y (List.mem_cons_of_mem _ I);exact Nat.mul_pos D H
/-- A shape's numbers. -/
abbrev goodN (d:List Nat):Prop:=d.length<=4/\(∀ x,x∈d->1<=x)/\a_e d<=4096
theorem e_G:∀ {d:List Nat},(∀ x,x∈d->1<=x)->∀ x,x∈d->x<=a_e d
 | y :: d,h,x,H=>by
  have I:=a_C (d:=d) fun y D=>h y (List.mem_cons_of_mem _ D);have D:=h y List.mem_cons_self;rcases List.mem_cons.1 H with rfl|H
  ·exact Nat.le_mul_of_pos_right _ I
  ·exact Nat.le_trans (e_G (fun y D=>h y (List.mem_cons_of_mem _ D)) x H) (Nat.le_mul_of_pos_left _ D)
theorem goodN.le {d:List Nat} (h:goodN d):∀ x,x∈d->x<=4096:=fun x D=>Nat.le_trans (e_G h.2.1 x D) h.2.2
theorem d_U {d:List Nat} (h:∀ x,x∈d->1<=x) (k:Nat):a_e (d.take k)<=a_e d:=by
 have e:a_e d=a_e (d.take k)*a_e (d.drop k):=by rw [<- a_E,List.take_append_drop]
 have:=a_C (d:=d.drop k) fun x D=>h x (List.mem_of_mem_drop D);rw [e];exact Nat.le_mul_of_pos_right _ this
theorem d_V {d:List Nat} (h:∀ x,x∈d->1<=x) (k:Nat):a_e (d.drop k)<=a_e d:=by
 have e:a_e d=a_e (d.take k)*a_e (d.drop k):=by rw [<- a_E,List.take_append_drop]
 have:=a_C (d:=d.take k) fun x D=>h x (List.mem_of_mem_take D);rw [e];exact Nat.le_mul_of_pos_left _ this
theorem b_D (d:List Nat) (k:Nat) (h:k < d.length):a_e (d.take (k+1))=a_e (d.take k)*d[k]:=by
 rw [List.take_succ_eq_append_getElem h,a_E];simp [a_e]
theorem b_6 (d:List Nat) (k:Nat) (h:k < d.length):a_e (d.drop k)=d[k]*a_e (d.drop (k+1)):=by
 rw [List.drop_eq_getElem_cons h];rfl
/-- How far it is from one to the next along each. -/
def a_w:List Nat->List Nat
 | []=>[]
 | _ :: ds=>a_e ds :: a_w ds
theorem b_R:∀ d,(a_w d).length=d.length
 | []=>rfl
 | _ :: ds=>by simp [a_w,b_R ds]
theorem c_3:∀ (d:List Nat) (k:Nat),k < d.length->(a_w d)[k]?=some (a_e (d.drop (k+1)))
 | [],k,h=>by simp at h
 | _ :: ds,0,h=>by simp [a_w]
 | _ :: ds,k+1,h=>by
  simp only [a_w,List.getElem?_cons_succ,List.drop_succ_cons];exact c_3 ds k (by simpa using h)
/-- The number of a place, and back. -/
def c_v:List Nat->List Nat->Nat
 | _ :: ds,p :: ps=>p*a_e ds+c_v ds ps
 | _,_=>0
def a_S:List Nat->Nat->List Nat
 | [],_=>[]
 | _ :: ds,at_=>at_ / a_e ds :: a_S ds (at_ % a_e ds)
theorem c_w:∀ d a,(a_S d a).length=d.length
 | [],_=>rfl
 | _ :: ds,a=>by simp [a_S,c_w ds]
theorem d_n:∀ (d:List Nat) (a:Nat),(∀ x,x∈d->1<=x)->a < a_e d->c_v d (a_S d a)=a
 | [],a,_,h=>by simp [a_e] at h;simp [c_v,h]
 | x :: ds,a,h,ha=>by
  have H:=a_C (d:=ds) fun y D=>h y (List.mem_cons_of_mem _ D);rw [a_S,c_v,d_n ds _ (fun y D=>h y (List.mem_cons_of_mem _ D)) (Nat.mod_lt _ H),Nat.mul_comm];exact Nat.div_add_mod a (a_e ds)
/-- Each number of a place is below its side. -/
def d_W:List Nat->List Nat->Prop
 | d :: ds,p :: ps=>p < d/\d_W ds ps
 | [],[]=>True
 | _,_=>False
theorem c_j:∀ (d:List Nat) (a:Nat),(∀ x,x∈d->1<=x)->a < a_e d->d_W d (a_S d a)
 | [],_,_,_=>trivial
 | x :: ds,a,h,ha=>by
  have H:=a_C (d:=ds) fun y D=>h y (List.mem_cons_of_mem _ D);refine ⟨Nat.div_lt_of_lt_mul (by rw [Nat.mul_comm];exact ha),c_j ds _ (fun y D=>h y (List.mem_cons_of_mem _ D)) (Nat.mod_lt _ H)⟩
theorem f_5:∀ {d p:List Nat},d_W d p->p.length=d.length
 | [],[],_=>rfl
 | _ :: ds,_ :: ps,h=>by simp [f_5 h.2]
 | [],_ :: _,h=>h.elim
 | _ :: _,[],h=>h.elim
theorem f_6:∀ {d p:List Nat},d_W d p->∀ (k:Nat) (x y:Nat),d[k]?=some x->p[k]?=some y->y < x
 | _ :: _,_ :: _,h,0,x,y,hx,hy=>by
  simp at hx hy;subst hx hy;exact h.1
 | _ :: ds,_ :: ps,h,k+1,x,y,hx,hy=>f_6 h.2 k x y (by simpa using hx) (by simpa using hy)
 | [],[],_,k,x,y,hx,_=>by simp at hx
 | [],_ :: _,h,_,_,_,_,_=>h.elim
 | _ :: _,[],h,_,_,_,_,_=>h.elim
theorem h_n:∀ {d p:List Nat},p.length=d.length->(∀ (k:Nat) (x y:Nat),d[k]?=some x->p[k]?=some y->y < x)->d_W d p
 | [],[],_,_=>trivial
 | d :: ds,p :: ps,hl,h=>⟨h 0 d p rfl rfl,h_n (by simpa using hl) fun k x y H D=>h (k+1) x y (by simpa using H) (by simpa using D)⟩
 | [],_ :: _,hl,_=>by simp at hl
 | _ :: _,[],hl,_=>by simp at hl
theorem k_9:∀ {d p:List Nat},d_W d p->c_v d p < a_e d
 | [],[],_=>by simp [c_v,a_e]
 | d :: ds,p :: ps,h=>by
  have H:=k_9 h.2;have D:(p+1)*a_e ds<=d*a_e ds:=Nat.mul_le_mul_right _ h.1;rw [Nat.add_mul] at D;simp only [c_v,a_e];omega
 | [],_ :: _,h=>h.elim
 | _ :: _,[],h=>h.elim
/-- The same, of the first k sides. -/
def r_c (d p:List Nat):Nat->Nat
 | 0=>0
 | k+1=>r_c d p k*d.getD k 0+p.getD k 0
/-- A place's k-th number, by the sides behind it. -/
theorem f_7:∀ (d:List Nat) (a k:Nat),(∀ x,x∈d->1<=x)->a < a_e d->(I:k < d.length)->(a_S d a)[k]?=some (a / a_e (d.drop (k+1)) % d[k])
 | x :: ds,a,0,h,ha,I=>by
  simp only [a_S,List.getElem?_cons_zero,List.drop_succ_cons,List.drop_zero,List.getElem_cons_zero];rw [Nat.mod_eq_of_lt (Nat.div_lt_of_lt_mul (by rw [Nat.mul_comm];exact ha))]
 | x :: ds,a,k+1,h,ha,I=>by
  have H:∀ y,y∈ds->1<=y:=fun y J=>h y (List.mem_cons_of_mem _ J);have L:=a_C H;have D:k < ds.length:=by simpa using I
  simp only [a_S,List.getElem?_cons_succ,List.drop_succ_cons,List.getElem_cons_succ];rw [f_7 ds (a % a_e ds) k H (Nat.mod_lt _ L) D]
  congr 1
  have e:a_e ds=a_e (ds.take k)*(ds[k]*a_e (ds.drop (k+1))):=by rw [<- b_6 ds k D,<- a_E,List.take_append_drop]
  generalize R:a_e (ds.drop (k+1))=P at *;have M:1<=P:=by rw [<- R];exact a_C fun y J=>H y (List.mem_of_mem_drop J)
  have O:1<=ds[k]:=H _ (List.getElem_mem D);generalize ds[k]=K at *;generalize a_e (ds.take k)=T at *;rw [e,show T*(K*P)=P*(K*T) by rw [Nat.mul_comm T,Nat.mul_comm K P,Nat.mul_assoc],Nat.mod_mul_right_div_self,Nat.mod_mul_right_mod]
/-- What is left of a number behind the sides from k on. -/
theorem n_p (d:List Nat) (a k:Nat) (D:k < d.length):a / a_e (d.drop (k+1)) / d[k]=a / a_e (d.drop k):=by
 rw [Nat.div_div_eq_div_mul,b_6 d k D,Nat.mul_comm]
/-- The sum of products, of the first k. -/
def h_j (p s:List Nat):Nat->Nat
 | 0=>0
 | k+1=>h_j p s k+p.getD k 0*s.getD k 0
theorem h_o (D H:Nat) (p s:List Nat):∀ k,h_j (D :: p) (H :: s) (k+1)=D*H+h_j p s k
 | 0=>by simp [h_j]
 | k+1=>by
  rw [h_j,h_o D H p s k,h_j];simp only [List.getD_cons_succ];omega
theorem c_4:∀ (d p:List Nat),p.length=d.length->h_j p (a_w d) d.length=c_v d p
 | [],[],_=>rfl
 | d :: ds,p :: ps,h=>by
  rw [a_w,List.length_cons,h_o,c_4 ds ps (by simpa using h),c_v]
 | [],_ :: _,h=>by simp at h
 | _ :: _,[],h=>by simp at h
/-- The i-th side from the last on (from 1), 1 where there is none. -/
def a_U (l:List Nat) (i:Nat):Nat:=if i<=l.length then l.getD (l.length - i) 1 else 1
theorem c_x {l:List Nat} (h:∀ x,x∈l->1<=x) (i:Nat):1<=a_U l i:=by
 unfold a_U
 split
 ·rw [List.getD_eq_getElem?_getD];cases D:l[l.length - i]? with
  | none=>exact Nat.le_refl _
  | some x=>exact h x (List.mem_of_getElem? D)
 ·exact Nat.le_refl _
theorem d_X (l:List Nat) (j:Nat) (h:j < l.length):l[j]?=some (a_U l (l.length - j)):=by
 unfold a_U;rw [if_pos (by omega),show l.length - (l.length - j)=j by omega,List.getD_eq_getElem?_getD,List.getElem?_eq_getElem h];rfl
theorem e_P {a b:List Nat} (H:a.length=b.length) (h:∀ i,1<=i->i<=a.length->a_U a i=a_U b i):a=b:=by
 refine List.ext_getElem? fun j=>?_;by_cases D:j < a.length
 ·rw [d_X a j D,d_X b j (by omega),h (a.length - j) (by omega) (by omega),H]
 ·rw [List.getElem?_eq_none (by omega),List.getElem?_eq_none (by omega)]
/-- The list of n sides. -/
def e_5 (n:Nat) (f:Nat->Nat):List Nat:=(List.range n).map fun j=>f (n - j)
theorem e_6 (n:Nat) (f:Nat->Nat):(e_5 n f).length=n:=by simp [e_5]
theorem h_p (n:Nat) (f:Nat->Nat) (i:Nat) (D:1<=i) (h:i<=n):a_U (e_5 n f) i=f i:=by
 unfold a_U;rw [e_6,if_pos h,List.getD_eq_getElem?_getD,e_5,List.getElem?_map,List.getElem?_range (by omega)];simp only [Option.map_some,Option.getD_some];rw [show n - (n - i)=i by omega]
theorem c_5 (l:List Nat) (i:Nat) (h:l.length < i):a_U l i=1:=by
 unfold a_U;rw [if_neg (by omega)]
def joinN (a b:List Nat):List Nat:=e_5 (max a.length b.length) fun i=>max (a_U a i) (a_U b i)
abbrev j_e (x y:Nat):Prop:=x=y∨x=1∨y=1
def b_W (a b:List Nat):Prop:=∀ i,1<=i->i<=max a.length b.length->j_e (a_U a i) (a_U b i)
theorem a_5 (a b:List Nat):(joinN a b).length=max a.length b.length:=e_6 _ _
theorem b_q (a b:List Nat) (i:Nat) (h:1<=i):a_U (joinN a b) i=max (a_U a i) (a_U b i):=by
 by_cases D:i<=max a.length b.length
 ·exact h_p _ _ i h D
 ·rw [c_5 _ i (by rw [a_5];omega),c_5 a i (by omega),c_5 b i (by omega)];rfl
theorem b_Z (a b:List Nat):joinN a b=joinN b a:=
 e_P (by rw [a_5,a_5,Nat.max_comm]) fun i D H=>by rw [b_q _ _ _ D,b_q _ _ _ D,Nat.max_comm]
theorem r_d {x y:Nat}:j_e x y↔j_e y x:=by unfold j_e;omega
theorem e_p (a b:List Nat):b_W a b↔b_W b a:=by
 unfold b_W;rw [Nat.max_comm b.length];exact ⟨fun h i D H=>r_d.1 (h i D H),fun h i D H=>r_d.1 (h i D H)⟩
theorem e_7 {a b:List Nat} (H:∀ x,x∈a->1<=x) (hb:∀ x,x∈b->1<=x) (h:b_W a b):b_W (joinN a b) a:=by
 intro i D I;rw [b_q _ _ _ D];rw [a_5] at I;have:=h i D (by omega);have L:=c_x H i;have J:=c_x hb i;unfold j_e at *;omega
theorem e_8 (a b:List Nat):joinN (joinN a b) a=joinN a b:=
 e_P (by rw [a_5,a_5];omega) fun i D H=>by
  rw [b_q _ _ _ D,b_q _ _ _ D];omega
/-- A shape spread to another's length: ones ahead. -/
def l_a (n:Nat) (l:List Nat):List Nat:=List.replicate (n - l.length) 1++l
theorem d_o (n:Nat) (l:List Nat) (h:l.length<=n):(l_a n l).length=n:=by simp [l_a];omega
theorem l_b (n:Nat) (l:List Nat) (h:l.length<=n) (i:Nat) (H:1<=i):a_U (l_a n l) i=a_U l i:=by
 by_cases D:i<=l.length
 ·unfold a_U;rw [d_o n l h,if_pos D,if_pos (by omega),l_a,List.getD_eq_getElem?_getD,List.getElem?_append_right (by simp;omega),List.getD_eq_getElem?_getD]
  congr 2
  simp;omega
 ·rw [c_5 l i (by omega)];unfold a_U;rw [d_o n l h]
  split
  ·rw [l_a,List.getD_eq_getElem?_getD,List.getElem?_append_left (by simp;omega)];rw [List.getElem?_replicate]
   split <;> rfl
  ·rfl
theorem k_m (m:Nat):a_e (List.replicate m 1)=1:=by
 induction m with
 | zero=>rfl
 | succ m ih=>rw [List.replicate_succ,a_e,ih]
theorem l_c (n:Nat) (l:List Nat):a_e (l_a n l)=a_e l:=by rw [l_a,a_E,k_m,Nat.one_mul]
/-- What is spread where: of each side that is 1 its only number. -/
def d_Y:List Nat->List Nat->List Nat
 | d :: ds,p :: ps=>(if d=1 then 0 else p) :: d_Y ds ps
 | _,_=>[]
theorem h_q:∀ d p:List Nat,p.length=d.length->(d_Y d p).length=d.length
 | [],[],_=>rfl
 | d :: ds,p :: ps,h=>by simp [d_Y,h_q ds ps (by simpa using h)]
 | [],_ :: _,h=>by simp at h
 | _ :: _,[],h=>by simp at h
theorem h_r:∀ (d p:List Nat) (k:Nat) (x y:Nat),d[k]?=some x->p[k]?=some y->(d_Y d p)[k]?=some (if x=1 then 0 else y)
 | d :: ds,p :: ps,0,x,y,hx,hy=>by
  simp at hx hy;subst hx hy;rfl
 | d :: ds,p :: ps,k+1,x,y,hx,hy=>by
  simp only [d_Y,List.getElem?_cons_succ];exact h_r ds ps k x y (by simpa using hx) (by simpa using hy)
 | [],_,k,x,y,hx,_=>by simp at hx
 | _ :: _,[],k,x,y,_,hy=>by simp at hy
/-- The place of the number that is spread to the place a of big. -/
def b_S (d big:List Nat) (a:Nat):Nat:=c_v d (d_Y d ((a_S big a).drop (big.length - d.length)))
/-- The same, side by side. -/
def frN:List Nat->List Nat->Nat->Nat
 | d :: ds,b :: bs,a=>(if d=1 then 0 else a / a_e bs)*a_e ds+frN ds bs (a % a_e bs)
 | _,_,_=>0
theorem l_d:∀ (d b:List Nat) (a:Nat),d.length=b.length->c_v d (d_Y d (a_S b a))=frN d b a
 | [],[],_,_=>rfl
 | d :: ds,b :: bs,a,h=>by rw [a_S,d_Y,c_v,l_d ds bs _ (by simpa using h),frN]
 | [],_ :: _,_,h=>by simp at h
 | _ :: _,[],_,h=>by simp at h
theorem h_s:∀ (m:Nat) (d p:List Nat),p.length=m+d.length->c_v (List.replicate m 1++d) (d_Y (List.replicate m 1++d) p)=c_v d (d_Y d (p.drop m))
 | 0,d,p,h=>by simp
 | m+1,d,[],h=>by simp at h;omega
 | m+1,d,p :: ps,h=>by
  rw [List.replicate_succ,List.cons_append,d_Y,c_v,if_pos rfl,Nat.zero_mul,Nat.zero_add,h_s m d ps (by simp at h;omega),List.drop_succ_cons]
theorem j_f (d big:List Nat) (a:Nat) (h:d.length<=big.length):b_S d big a=frN (l_a big.length d) big a:=by
 rw [<- l_d _ _ _ (d_o _ _ h),l_a,h_s _ d _ (by rw [c_w];omega)];rfl
/-- Each side of d is 1 or big's. -/
def j_g:List Nat->List Nat->Prop
 | d :: ds,b :: bs=>(d=1∨d=b)/\j_g ds bs
 | [],[]=>True
 | _,_=>False
theorem h_t:∀ {d b:List Nat},d.length=b.length->(∀ (k:Nat) (x y:Nat),d[k]?=some x->b[k]?=some y->x=1∨x=y)->j_g d b
 | [],[],_,_=>trivial
 | d :: ds,b :: bs,hl,h=>⟨h 0 d b rfl rfl,h_t (by simpa using hl) fun k x y H D=>h (k+1) x y (by simpa using H) (by simpa using D)⟩
 | [],_ :: _,hl,_=>by simp at hl
 | _ :: _,[],hl,_=>by simp at hl
theorem n_q {d big:List Nat} (R:∀ x,x∈d->1<=x) (hb:∀ x,x∈big->1<=x) (hf:b_W d big) (I:joinN d big=big):d.length<=big.length/\j_g (l_a big.length d) big:=by
 have D:d.length<=big.length:=by
  have:=congrArg List.length I;rw [a_5] at this;omega
 refine ⟨D,h_t (d_o _ _ D) fun k x y J H=>?_⟩;have L:k < big.length:=(List.getElem?_eq_some_iff.1 H).1;rw [d_X _ k (by rw [d_o _ _ D];exact L),d_o _ _ D,l_b _ _ D _ (by omega)] at J;rw [d_X _ k L] at H;cases J;cases H;have M:=hf (big.length - k) (by omega) (by omega);have O:=congrArg (fun l=>a_U l (big.length - k)) I;simp only [b_q _ _ _ (show 1<=big.length - k by omega)] at O;have V:=c_x R (big.length - k);have U:=c_x hb (big.length - k);unfold j_e at M;omega
theorem o_Z:∀ {d b:List Nat},j_g d b->(∀ x,x∈b->1<=x)->∀ a,a < a_e b->frN d b a < a_e d
 | [],[],_,_,a,_=>by simp [frN,a_e]
 | d :: ds,b :: bs,h,hb,a,ha=>by
  have H:=a_C (d:=bs) fun y D=>hb y (List.mem_cons_of_mem _ D);have L:=o_Z h.2 (fun y D=>hb y (List.mem_cons_of_mem _ D)) (a % a_e bs) (Nat.mod_lt _ H);have J:a / a_e bs < b:=Nat.div_lt_of_lt_mul (by rw [Nat.mul_comm];exact ha)
  have I:(if d=1 then 0 else a / a_e bs) < d:=by
   rcases h.1 with e|e
   ·rw [if_pos e];omega
   ·split <;> omega
  rw [frN,a_e];have:=Nat.mul_le_mul_right (a_e ds) (show (if d=1 then 0 else a / a_e bs)+1<=d from I);rw [Nat.add_mul] at this;omega
 | [],_ :: _,h,_,_,_=>h.elim
 | _ :: _,[],h,_,_,_=>h.elim
theorem g_y {d big:List Nat} (L:∀ x,x∈d->1<=x) (hb:∀ x,x∈big->1<=x) (hf:b_W d big) (D:joinN d big=big) (a:Nat) (I:a < a_e big):b_S d big a < a_e d:=by
 obtain ⟨J,H⟩:=n_q L hb hf D;rw [j_f d big a J,<- l_c big.length d];exact o_Z H hb a I
theorem e_9:∀ {d p:List Nat},d_W d p->d_Y d p=p
 | [],[],_=>rfl
 | d :: ds,p :: ps,h=>by
  rw [d_Y,e_9 h.2]
  congr 1
  have:=h.1
  split <;> omega
 | [],_ :: _,h=>h.elim
 | _ :: _,[],h=>h.elim
def ntl (l:List Int):List Nat:=l.map Int.toNat
def itl (l:List Nat):List Int:=l.map fun (x:Nat)=>(x:Int)
theorem a_Q (l:List Int):(ntl l).length=l.length:=by simp [ntl]
theorem a_v (l:List Nat):(itl l).length=l.length:=by simp [itl]
theorem a_o (l:List Nat):ntl (itl l)=l:=by
 unfold ntl itl;rw [List.map_map];exact (List.map_congr_left fun x _=>by simp).trans (List.map_id _)
theorem l_e {l:List Int} (h:∀ x,x∈ntl l->1<=x):itl (ntl l)=l:=by
 unfold ntl itl at *;rw [List.map_map];refine (List.map_congr_left fun x D=>?_).trans (List.map_id _);have:=h x.toNat (List.mem_map.2 ⟨x,D,rfl⟩)
 show ((x.toNat:Nat):Int)=x;omega
theorem p_x {a b:List Nat} (h:itl a=itl b):a=b:=by rw [<- a_o a,h,a_o]
theorem a_r {α:Type} (l:List α) (k:Nat) (d:α) (h:k < l.length):l.getD k d=l[k]:=by
 rw [List.getD_eq_getElem?_getD,List.getElem?_eq_getElem h];rfl
theorem a_O (l:List Nat) (k:Nat):(itl l).getD k 0=((l.getD k 0:Nat):Int):=by
 rw [List.getD_eq_getElem?_getD,List.getD_eq_getElem?_getD,itl,List.getElem?_map];cases l[k]? <;> rfl
theorem d_Z (l:List Int) (k:Nat) (h:k < l.length):(ntl l).getD k 0=(l.getD k 0).toNat:=by
 rw [List.getD_eq_getElem?_getD,List.getD_eq_getElem?_getD,ntl,List.getElem?_map,List.getElem?_eq_getElem h];rfl
def f_a (d:List Nat):Nat:=if goodN d then a_e d else 0
theorem b_0 {d:List Nat} (h:goodN d):f_a d=a_e d:=if_pos h
theorem f_b {d:List Nat} (h:¬ goodN d):f_a d=0:=if_neg h
theorem goodN.pos {d:List Nat} (h:goodN d):1<=a_e d:=a_C h.2.1
theorem l_f (d:List Nat):(0 < f_a d)↔goodN d:=by
 unfold f_a
 split
 ·rename_i h;have:=h.pos;exact ⟨fun _=>h,fun _=>by omega⟩
 ·rename_i h;exact ⟨fun D=>by omega,fun D=>absurd D h⟩
/-- The product of the first k, and that they are not below 1. -/
def pK (l:List Int) (k:Nat):Int:=((a_e ((ntl l).take k):Nat):Int)
def okK (l:List Int) (k:Nat):Prop:=∀ i,i < k->1<=l.getD i 0
theorem p_y (l:List Int):pK l 0=1:=rfl
theorem n_r (l:List Int):okK l 0:=fun i h=>absurd h (Nat.not_lt_zero _)
theorem l_g (l:List Int) (k:Nat) (D:k < l.length) (h:1<=l.getD k 0):pK l (k+1)=pK l k*l.getD k 0:=by
 unfold pK;rw [b_D _ k (by rw [a_Q];exact D),Int.natCast_mul]
 congr 1
 rw [<- a_r (ntl l) k 0 (by rw [a_Q];exact D),d_Z l k D];omega
theorem n_s {l:List Int} {k:Nat} (h:okK l k) (D:1<=l.getD k 0):okK l (k+1):=fun i I=>by
 rcases Nat.lt_succ_iff_lt_or_eq.1 I with H|rfl
 ·exact h i H
 ·exact D
theorem p_z {l:List Int} {k:Nat} (D:k < l.length):(l.getD k 0).toNat∈ntl l:=by
 rw [a_r l k 0 D];exact List.mem_map.2 ⟨_,List.getElem_mem D,rfl⟩
theorem p_A {l:List Int} {k:Nat} (D:k < l.length) (h:l.getD k 0 < 1):¬ goodN (ntl l):=fun H=>by
 have:=H.2.1 _ (p_z D);omega
theorem p_B {l:List Int} (D:goodN (ntl l)) (k:Nat):1<=pK l k/\pK l k<=4096:=by
 have I:=d_U D.2.1 k;have J:=a_C (d:=(ntl l).take k) fun x H=>D.2.1 x (List.mem_of_mem_take H);have L:=D.2.2;unfold pK;omega
theorem l_h {l:List Int} {k:Nat} (D:k < l.length) (H:1<=l.getD k 0) (h:4096 < pK l k*l.getD k 0):¬ goodN (ntl l):=fun I=>by
 have:=p_B I (k+1);rw [l_g l k D H] at this;omega
theorem n_t {l:List Int} (I:l.length<=4) (D:okK l l.length) (h:pK l l.length<=4096):goodN (ntl l)/\pK l l.length=((a_e (ntl l):Nat):Int):=by
 have e:(ntl l).take l.length=ntl l:=List.take_of_length_le (by rw [a_Q];exact Nat.le_refl _);unfold pK at *;rw [e] at h ⊢;refine ⟨⟨by rw [a_Q];exact I,fun x L=>?_,by omega⟩,rfl⟩;obtain ⟨y,J,rfl⟩:=List.mem_map.1 L;obtain ⟨i,H,rfl⟩:=List.mem_iff_getElem.1 J;have:=D i H;rw [a_r l i 0 H] at this;omega
theorem n_u {l:List Int} (h:4 < l.length):¬ goodN (ntl l):=fun D=>by
 have:=D.1;rw [a_Q] at this;omega
/-- The quotient that a bound is held against. -/
theorem r_e (x y:Int) (I:1<=x) (D:x<=4096) (h:y<=4096 / x) (H:1<=y):x*y<=4096/\1<=x*y:=by
 have J:x*(4096 / x)<=4096:=Int.mul_ediv_self_le (by omega);have L:x*y<=x*(4096 / x):=Int.mul_le_mul_of_nonneg_left h (by omega);have M:1*1<=x*y:=Int.mul_le_mul I H (by omega) (by omega);omega
theorem r_f (x y:Int) (J:1<=x) (H:x<=4096) (h:4096 / x < y):4096 < x*y:=by
 have D:4096 < (4096 / x+1)*x:=Int.lt_mul_of_ediv_lt (by omega) (by omega);have I:x*(4096 / x+1)<=x*y:=Int.mul_le_mul_of_nonneg_left (by omega) (by omega);rw [Int.mul_comm] at D;omega
/-- A row in the making, from its end on. -/
def k_n (L:List Int) (k:Nat):List Int:=List.replicate (L.length - k) 0++L.drop (L.length - k)
theorem e_Q (L:List Int) (k:Nat):(k_n L k).length=L.length:=by
 unfold k_n;rw [List.length_append,List.length_replicate,List.length_drop];omega
theorem h_u (L:List Int):k_n L 0=List.replicate L.length 0:=by simp [k_n]
theorem h_v (L:List Int):k_n L L.length=L:=by simp [k_n]
theorem j_h (L:List Int) (j k:Nat) (h:j+k+1=L.length):(k_n L k).set j (L.getD j 0)=k_n L (k+1):=by
 unfold k_n;rw [show L.length - k=j+1 by omega,show L.length - (k+1)=j by omega,List.replicate_succ',List.append_assoc,List.set_append_right _ _ (by simp),List.length_replicate,Nat.sub_self,List.drop_eq_getElem_cons (show j < L.length by omega),a_r L j 0 (by omega)];rfl
/-- The product of the last k. -/
def sK (d:List Nat) (k:Nat):Int:=((a_e (d.drop (d.length - k)):Nat):Int)
theorem p_C (d:List Nat):sK d 0=1:=by simp [sK,a_e]
theorem l_i (d:List Nat) (j k:Nat) (h:j+k+1=d.length):sK d (k+1)=sK d k*((d.getD j 0:Nat):Int):=by
 unfold sK;rw [show d.length - k=j+1 by omega,show d.length - (k+1)=j by omega,b_6 d j (by omega),Int.natCast_mul,Int.mul_comm,a_r d j 0 (by omega)]
theorem o_0 {d:List Nat} (h:goodN d) (k:Nat):1<=sK d k/\sK d k<=4096:=by
 have H:=d_V h.2.1 (d.length - k);have I:=a_C (d:=d.drop (d.length - k)) fun x D=>h.2.1 x (List.mem_of_mem_drop D);have J:=h.2.2;unfold sK;omega
theorem goodN.at {d:List Nat} (h:goodN d) (j:Nat) (D:j < d.length):1<=d.getD j 0/\d.getD j 0<=4096:=by
 rw [a_r d j 0 D];exact ⟨h.2.1 _ (List.getElem_mem D),h.le _ (List.getElem_mem D)⟩
def c_H (d:List Int):List Int:=if goodN (ntl d) then itl (a_w (ntl d)) else []
theorem f_8 (d:List Nat) (j k:Nat) (h:j+k+1=d.length):(itl (a_w d)).getD j 0=sK d k:=by
 rw [a_O,List.getD_eq_getElem?_getD,c_3 d j (by omega)];unfold sK;rw [show d.length - k=j+1 by omega];rfl
/-- What a walk from the first side on has reckoned. -/
def hK (d p:List Int) (k:Nat):Int:=((r_c (ntl d) (ntl p) k:Nat):Int)
/-- Do two fit, by looking. -/
def n_v (a b:List Nat):Bool:=(List.range (max a.length b.length+1)).all fun i=>decide (i=0) || decide (j_e (a_U a i) (a_U b i))
theorem c_y (a b:List Nat):n_v a b=true↔b_W a b:=by
 unfold n_v b_W;rw [List.all_eq_true];constructor
 ·intro h i J L;have:=h i (List.mem_range.2 (by omega));rw [Bool.or_eq_true,decide_eq_true_eq,decide_eq_true_eq] at this;rcases this with D|D
  ·omega
  ·exact D
 ·intro h i H;have H:=List.mem_range.1 H;rw [Bool.or_eq_true,decide_eq_true_eq,decide_eq_true_eq];by_cases I:i=0
  ·exact .inl I
  ·exact .inr (h i (by omega) (by omega))
/-- What two spread to, and the error. -/
def b_T (a b:List Int):List Int:=if goodN (ntl a)/\goodN (ntl b)/\n_v (ntl a) (ntl b)=true/\goodN (joinN (ntl a) (ntl b)) then itl (joinN (ntl a) (ntl b)) else []
def b_w (a b:List Int):Int:=if goodN (ntl a)/\goodN (ntl b) then if n_v (ntl a) (ntl b)=true then if goodN (joinN (ntl a) (ntl b)) then 0 else 2 else 4 else 1
theorem h_w {a b:List Int} (h:¬ (goodN (ntl a)/\goodN (ntl b))):b_T a b = []/\b_w a b=1:=⟨if_neg fun D=>h ⟨D.1,D.2.1⟩,if_neg h⟩
theorem i_i {a b:List Nat} (H:goodN a) (hb:goodN b) (h:¬ b_W a b):b_T (itl a) (itl b) = []/\b_w (itl a) (itl b)=4:=by
 unfold b_T b_w;rw [a_o,a_o];exact ⟨if_neg fun D=>h ((c_y a b).1 D.2.2.1),by rw [if_pos ⟨H,hb⟩,if_neg fun D=>h ((c_y a b).1 D)]⟩
theorem k_o {a b:List Nat} (H:goodN a) (hb:goodN b) (hf:b_W a b) (h:¬ goodN (joinN a b)):b_T (itl a) (itl b) = []/\b_w (itl a) (itl b)=2:=by
 unfold b_T b_w;rw [a_o,a_o];exact ⟨if_neg fun D=>h D.2.2.2,by rw [if_pos ⟨H,hb⟩,if_pos ((c_y a b).2 hf),if_neg h]⟩
theorem b_o {a b:List Nat} (D:goodN a) (hb:goodN b) (hf:b_W a b) (h:goodN (joinN a b)):b_T (itl a) (itl b)=itl (joinN a b)/\b_w (itl a) (itl b)=0:=by
 unfold b_T b_w;rw [a_o,a_o];exact ⟨if_pos ⟨D,hb,(c_y a b).2 hf,h⟩,by rw [if_pos ⟨D,hb⟩,if_pos ((c_y a b).2 hf),if_pos h]⟩
theorem l_j (d:List Nat) (k:Nat) (D:1<=k) (h:k<=d.length):(itl d).getD (d.length - k) 0=((a_U d k:Nat):Int):=by
 rw [a_O];unfold a_U;rw [if_pos h,a_r d _ 0 (by omega),a_r d _ 1 (by omega)]
theorem e_R {d:List Nat} (h:goodN d) (k:Nat):1<=a_U d k/\a_U d k<=4096:=by
 refine ⟨c_x h.2.1 k,?_⟩;unfold a_U
 split
 ·rw [List.getD_eq_getElem?_getD];cases D:d[d.length - k]? with
  | none=>show 1<=4096;omega
  | some x=>exact h.le x (List.mem_of_getElem? D)
 ·omega
theorem p_D (a b:List Nat) (j k:Nat) (h:j+k+1=max a.length b.length):(itl (joinN a b)).getD j 0=((max (a_U a (k+1)) (a_U b (k+1)):Nat):Int):=by
 have:=l_j (joinN a b) (k+1) (by omega) (by rw [a_5];omega);rw [a_5,show max a.length b.length - (k+1)=j by omega,b_q _ _ _ (by omega)] at this;exact this
/-- The side that two sides spread to, and whether they do. -/
def jnd (x y:Int):Int:=if x=1 then y else x
def jok (x y:Int):Bool:=decide (x=1∨y=1∨x=y)
theorem p_E (x y:Nat):jok (x:Int) (y:Int)=decide (j_e x y):=by
 unfold jok j_e;exact decide_eq_decide.2 (by omega)
theorem p_F (x y:Nat) (H:1<=x) (D:1<=y) (h:j_e x y):jnd (x:Int) (y:Int)=((max x y:Nat):Int):=by
 unfold jnd j_e at *
 split <;> omega
theorem f_9 {a b:List Int} (h:b_w a b=0):goodN (ntl a)/\goodN (ntl b)/\b_W (ntl a) (ntl b)/\goodN (joinN (ntl a) (ntl b)):=by
 unfold b_w at h
 split at h
 ·rename_i D
  split at h
  ·rename_i H
   split at h
   ·rename_i I;exact ⟨D.1,D.2,(c_y _ _).1 H,I⟩
   ·omega
  ·omega
 ·omega
theorem l_k (a b:List Int):(b_T a b).length<=4:=by
 unfold b_T
 split
 ·rename_i h;rw [a_v];exact h.2.2.2.1
 ·simp
theorem g_z {d big:List Nat} (D:joinN d big=big):d.length<=big.length:=by
 have:=congrArg List.length D;rw [a_5] at this;omega
/-- The place that is spread to the place a of big. -/
def qN (d big:List Nat) (a:Nat):List Nat:=d_Y d ((a_S big a).drop (big.length - d.length))
theorem r_g (d big:List Nat) (a:Nat) (h:d.length<=big.length):(qN d big a).length=d.length:=h_q _ _ (by rw [List.length_drop,c_w];omega)
/-- A number of the spread place, by big's place. -/
theorem p_G {d big:List Nat} (h:d.length<=big.length) (a i:Nat) (H:i < d.length):(((qN d big a).getD i 0:Nat):Int)=if ((d.getD i 0:Nat):Int)=1 then 0 else (itl (a_S big a)).getD (big.length - d.length+i) 0:=by
 have L:=c_w big a;have I:d[i]?=some (d.getD i 0):=by rw [List.getElem?_eq_getElem H,a_r d i 0 H]
 have J:((a_S big a).drop (big.length - d.length))[i]?=some ((a_S big a).getD (big.length - d.length+i) 0):=by
  rw [List.getElem?_drop,List.getElem?_eq_getElem (by omega),a_r _ _ 0 (by omega)]
 rw [a_O,List.getD_eq_getElem?_getD,qN,h_r d _ i _ _ I J];simp only [Option.getD_some];by_cases D:d.getD i 0=1
 ·rw [if_pos D,if_pos (by rw [D];rfl)];rfl
 ·rw [if_neg D,if_neg (by omega)]
/-- Go's ints. -/
def RI (l:List Int):Prop:=∀ y,y∈l->-9223372036854775808<=y/\y<=9223372036854775807
theorem RI.at {l:List Int} (h:RI l) (k:Nat) (D:k < l.length):-9223372036854775808<=l.getD k 0/\l.getD k 0<=9223372036854775807:=by
 rw [a_r l k 0 D];exact h _ (List.getElem_mem D)
/-- A slice's cells, as a walk reads them. -/
def Lst (w:World) (p:Option Addr) (n:Nat) (l:List Int):Prop:=l.length=n/\∀ j,j < n->∃ q o,p=some ⟨q,o,none⟩/\w.cell? ⟨q,o+j,none⟩=some (.int .i64 (l.getD j 0))
theorem Nums.lst {w:World} {v:Value} {l:List Int} (h:Nums .i64 w v l):∃ p n c,v = .slice p n c/\Hid (Lst w p n l):=by
 obtain ⟨p,c,rfl,D⟩:=h.view;exact ⟨p,_,c,rfl,rfl,D⟩
theorem size_any (v:Value) (l:List Int) (hl:RI l) (w:World) (hv:Nums .i64 w v l):
  Calls Tryz.prog 87 #[v] w fun e w'=>e = .returned (.int .i64 ((f_a (ntl l):Nat):Int))/\w'=w:=by
 obtain ⟨p,n,c,rfl,HC⟩:=hv.lst;have HL:Hid (RI l):=hl;obtain ⟨r,er⟩:∃ r:Int,((f_a (ntl l):Nat):Int)=r:=⟨_,rfl⟩
 have HR:Hid (((f_a (ntl l):Nat):Int)=r):=er;rw [er];clear er hv hl;go_enter Tryz.func87,Tryz.ntmps87;by_cases hn:4 < n
 ·have ac:(4:Int) < (n:Int):=by omega
  go_wp2;go_ret;have:=n_u (l:=l) (by rw [HC.out.1];exact hn);rw [<- HR.out,f_b this];exact ⟨rfl,rfl⟩
 have ac:(n:Int)<=4:=by omega
 go_wp2_with fail
 go_loopg [3,11] n (fun gg u v wr=>∃ (k:Nat) (x:Int),k<=n/\gg=n - k/\u = .int .i64 x/\v = .int .i64 (k:Int)/\Hid (x=pK l k/\okK l k)/\1<=x/\x<=4096/\wr=w)
 case atStart=>exact ⟨0,1,by omega,by omega,rfl,rfl,⟨(p_y l).symm,n_r l⟩,by omega,by omega,rfl⟩
 case round=>
  obtain ⟨k,x,hk,hg,rfl,rfl,R,V,J,rfl⟩:=hrel;by_cases aa:k < n
  ·have af:(k:Int) < (n:Int):=by omega
   obtain ⟨q,o,rfl,I⟩:=HC.out.2 k aa;have H:k < l.length:=by rw [HC.out.1];exact aa
   have Hk:Hid (k < l.length):=H;have hy:=HL.out.at k H;obtain ⟨y,ey⟩:∃ y,l.getD k 0=y:=⟨_,rfl⟩
   have O:Hid (l.getD k 0=y):=ey;rw [ey] at I hy;obtain ⟨L,M⟩:∃ L,(4096:Int) / x=L:=⟨_,rfl⟩
   have ag:0<=L/\L<=4096:=by
    rw [<- M];exact ⟨Int.ediv_nonneg (by omega) (by omega),Int.ediv_le_self _ (by omega)⟩
   have ah:Int.tdiv 4096 x=L:=by rw [Int.tdiv_eq_ediv_of_nonneg (by omega)];exact M
   clear ey H;by_cases ad:y < 1
   ·go_wp2;go_ret;rw [<- HR.out,f_b (p_A Hk.out (by rw [O.out];exact ad))];exact ⟨rfl,rfl⟩
   by_cases ae:L < y
   ·have D:¬ goodN (ntl l):=l_h Hk.out (by rw [O.out];omega) (by rw [O.out,<- R.out.1];exact r_f x y V J (by rw [M];exact ae));have U:Hid (¬ goodN (ntl l)):=D;clear D M;go_wp2;go_ret;rw [<- HR.out,f_b U.out];exact ⟨rfl,rfl⟩
   ·obtain ⟨m,em⟩:∃ m,x*y=m:=⟨_,rfl⟩
    have hm:=r_e x y V J (by rw [M];omega) (by omega);rw [em] at hm;have Hn:Hid (m=pK l (k+1)/\okK l (k+1)):=⟨by rw [l_g l k Hk.out (by rw [O.out];omega),<- R.out.1,O.out,em],n_s R.out.2 (by rw [O.out];omega)⟩
    clear M;go_wp2;go_roundg (n - (k+1))
    case measure=>omega
    case rel=>exact ⟨k+1,m,by omega,rfl,by first|rfl|simp [em],by first|rfl|simp,Hn,hm.2,hm.1,rfl⟩
  ·obtain rfl:k=n:=by omega
   go_wp2;go_ret;have ab:=HC.out.1;subst ab;have:=n_t (l:=l) (by omega) R.out.2 (by rw [<- R.out.1];exact J);rw [<- HR.out,b_0 this.1,<- this.2,<- R.out.1];exact ⟨rfl,rfl⟩
theorem b_X (v:Value) (l:List Int) (L:RI l) (w:World) (J:Nums .i64 w v l):
  Calls Tryz.prog 85 #[v] w fun e M=>e = .returned (.bool (decide (goodN (ntl l))))/\M=w:=by
 have I:=size_any v l L w J
 have D:decide (((f_a (ntl l):Nat):Int) > 0)=decide (goodN (ntl l)):=by
  have:=l_f (ntl l);exact decide_eq_decide.2 ⟨fun h=>this.1 (by omega),fun h=>by have:=this.2 h;omega⟩
 obtain ⟨r,H⟩:∃ r:Int,((f_a (ntl l):Nat):Int)=r:=⟨_,rfl⟩
 rw [H] at I D;rw [<- D];clear H D J;go_enter Tryz.func85,Tryz.ntmps85;go_wp2_with fail
 refine I.mono ?_;rintro e O ⟨rfl,rfl⟩;go_wp2;go_ret;exact ⟨rfl,rfl⟩
theorem r_h {a b:List Int} {n k:Nat} (H:a.length=n) (hb:b.length=n) (D:k < n) (h:a.getD k 0≠b.getD k 0):¬ a=b:=fun e=>h (by rw [e])
theorem o_1 {a b:List Int} {n:Nat} (I:a.length=n) (hb:b.length=n) (h:∀ i,i < n->a.getD i 0=b.getD i 0):a=b:=
 List.ext_getElem (by omega) fun i D H=>by
  have:=h i (by omega);rw [a_r a i 0 D,a_r b i 0 H] at this;exact this
theorem f_c (u v:Value) (a b:List Int) (hm:a.length<=9223372036854775807) (w:World) (hu:Nums .i64 w u a) (hv:Nums .i64 w v b):
  Calls Tryz.prog 94 #[u,v] w fun e w'=>e = .returned (.bool (decide (a=b)))/\∃ n,w'=w.drewN n:=by
 obtain ⟨p,n,c,rfl,I⟩:=hu.lst;obtain ⟨p2,V,c2,rfl,J⟩:=hv.lst;obtain ⟨r,M⟩:∃ r:Bool,decide (a=b)=r:=⟨_,rfl⟩
 have R:Hid (decide (a=b)=r):=M;rw [M];rw [I.out.1] at hm;have ae:(n:Int)<=9223372036854775807:=by omega
 clear M hv hu;go_enter Tryz.func94,Tryz.ntmps94;by_cases hn:n=V
 ·subst hn;go_wp2_with fail
  go_loopg [13] n (fun gg v wr=>∃ (k d:Nat),k<=n/\gg=n - k/\v = .int .i64 (k:Int)/\Hid (∀ i,i < k->a.getD i 0=b.getD i 0)/\wr=w.drewN d)
  case atStart=>exact ⟨0,0,by omega,by omega,rfl,fun i hi=>by omega,rfl⟩
  case round=>
   obtain ⟨k,d,hk,hg,rfl,U,rfl⟩:=hrel;by_cases D:k < n
   ·have ad:(k:Int) < (n:Int):=by omega
    obtain ⟨q,o,rfl,ca⟩:=I.out.2 k D;obtain ⟨q2,o2,rfl,cb⟩:=J.out.2 k D;obtain ⟨x,O⟩:∃ x,a.getD k 0=x:=⟨_,rfl⟩
    obtain ⟨y,ey⟩:∃ y,b.getD k 0=y:=⟨_,rfl⟩
    have L:Hid (a.getD k 0=x/\b.getD k 0=y):=⟨O,ey⟩
    rw [O] at ca;rw [ey] at cb;clear O ey;by_cases H:x=y
    ·subst H
     have Hn:Hid (∀ i,i < k+1->a.getD i 0=b.getD i 0):=fun i hi=>by
      rcases Nat.lt_succ_iff_lt_or_eq.1 hi with h|rfl
      ·exact U.out i h
      ·rw [L.out.1,L.out.2]
     clear U;go_wp2;go_region
     all_goals
      go_wp2;go_roundg (n - (k+1))
     case measure=>omega
     case rel=>exact ⟨k+1,d+1,by omega,rfl,by first|rfl|simp,Hn,rfl⟩
    ·have ab:(x != y)=true:=by simp [H]
     go_wp2;go_region
     all_goals go_wp2
     go_ret;rw [<- R.out,decide_eq_false (r_h I.out.1 J.out.1 D (by rw [L.out.1,L.out.2];exact H))];exact ⟨rfl,d+1,rfl⟩
   ·obtain rfl:k=n:=by omega
    go_wp2;go_ret;rw [<- R.out,decide_eq_true (o_1 I.out.1 J.out.1 U.out)];exact ⟨rfl,d,rfl⟩
 ·have ac:((n:Int) != (V:Int))=true:=by simp;omega
  have aa:¬ ((n:Int)=(V:Int)):=by omega
  go_wp2;go_ret;rw [<- R.out,decide_eq_false (fun e=>hn (by rw [<- I.out.1,<- J.out.1,e]))];exact ⟨rfl,0,rfl⟩
theorem n_w (u v:Value) (a b:List Int) (M:a.length<=9223372036854775807) (w:World) (I:Nums .i64 w u a) (H:Nums .i64 w v b):
  Calls Tryz.prog 132 #[u,v] w fun e L=>e = .returned (.bool (decide (a=b)))/\∃ n,L=w.drewN n:=by
 have J:=f_c u v a b M w I H;obtain ⟨r,D⟩:∃ r:Bool,decide (a=b)=r:=⟨_,rfl⟩
 rw [D] at J ⊢;clear D H I;go_enter Tryz.func132,Tryz.ntmps132;go_wp2_with fail
 refine J.mono ?_;rintro e O ⟨rfl,d,rfl⟩;go_wp2;go_ret;exact ⟨rfl,d,rfl⟩
theorem l_l (u v:Value) (a b:List Int) (hm:a.length<=9223372036854775807) (w:World) (hu:Nums .i64 w u a) (hv:Nums .i64 w v b):
  Calls Tryz.prog 50 #[u,v] w fun e w'=>e = .returned (.bool (decide (a=b)))/\∃ n,w'=w.drewN n:=by
 obtain ⟨p,n,c,rfl,I⟩:=hu.lst;obtain ⟨p2,V,c2,rfl,J⟩:=hv.lst;obtain ⟨r,M⟩:∃ r:Bool,decide (a=b)=r:=⟨_,rfl⟩
 have R:Hid (decide (a=b)=r):=M;rw [M];rw [I.out.1] at hm;have ae:(n:Int)<=9223372036854775807:=by omega
 clear M hv hu;go_enter Tryz.func50,Tryz.ntmps50;by_cases hn:n=V
 ·subst hn;go_wp2_with fail
  go_loopg [5] n (fun gg v wr=>∃ (k d:Nat),k<=n/\gg=n - k/\v = .int .i64 (k:Int)/\Hid (∀ i,i < k->a.getD i 0=b.getD i 0)/\wr=w.drewN d)
  case atStart=>exact ⟨0,0,by omega,by omega,rfl,fun i hi=>by omega,rfl⟩
  case round=>
   obtain ⟨k,d,hk,hg,rfl,U,rfl⟩:=hrel;by_cases D:k < n
   ·have ad:(k:Int) < (n:Int):=by omega
    obtain ⟨q,o,rfl,ca⟩:=I.out.2 k D;obtain ⟨q2,o2,rfl,cb⟩:=J.out.2 k D;obtain ⟨x,O⟩:∃ x,a.getD k 0=x:=⟨_,rfl⟩
    obtain ⟨y,ey⟩:∃ y,b.getD k 0=y:=⟨_,rfl⟩
    have L:Hid (a.getD k 0=x/\b.getD k 0=y):=⟨O,ey⟩
    rw [O] at ca;rw [ey] at cb;clear O ey;by_cases H:x=y
    ·subst H
     have Hn:Hid (∀ i,i < k+1->a.getD i 0=b.getD i 0):=fun i hi=>by
      rcases Nat.lt_succ_iff_lt_or_eq.1 hi with h|rfl
      ·exact U.out i h
      ·rw [L.out.1,L.out.2]
     clear U;go_wp2;go_region
     all_goals
      go_wp2;go_roundg (n - (k+1))
     case measure=>omega
     case rel=>exact ⟨k+1,d+1,by omega,rfl,by first|rfl|simp,Hn,rfl⟩
    ·have ab:(x != y)=true:=by simp [H]
     go_wp2;go_region
     all_goals go_wp2
     go_ret;rw [<- R.out,decide_eq_false (r_h I.out.1 J.out.1 D (by rw [L.out.1,L.out.2];exact H))];exact ⟨rfl,d+1,rfl⟩
   ·obtain rfl:k=n:=by omega
    go_wp2;go_ret;rw [<- R.out,decide_eq_true (o_1 I.out.1 J.out.1 U.out)];exact ⟨rfl,d,rfl⟩
 ·have ac:((n:Int) != (V:Int))=true:=by simp;omega
  have aa:¬ ((n:Int)=(V:Int)):=by omega
  go_wp2;go_ret;rw [<- R.out,decide_eq_false (fun e=>hn (by rw [<- I.out.1,<- J.out.1,e]))];exact ⟨rfl,0,rfl⟩
theorem i_e:NumT Tryz.prog 30 3 .i64 8:=⟨Tryz.underlying30,by kernel_rfl⟩
theorem l_m (w:World) (a b:Nat):(w.drewN a).drewN b=w.drewN (a+b):=by unfold World.drewN;simp [Nat.add_assoc]
theorem Lst.up {w D:World} {p:Option Addr} {n:Nat} {l:List Int} (h:Lst w p n l) (I:Below w.heap.size w D):Lst D p n l:=
 ⟨h.1,fun j H=>by
  obtain ⟨q,o,e,J⟩:=h.2 j H;exact ⟨q,o,e,a_h I J⟩⟩
theorem Lst.block {w:World} {q o n:Nat} {l:List Int} (h:Lst w (some ⟨q,o,none⟩) n l) (D:0 < n):q < w.heap.size:=by
 obtain ⟨I,J,e,H⟩:=h.2 0 D;cases e;exact c_u H
theorem b_k {l:List Int} (h:goodN (ntl l)):∃ d,goodN d/\l=itl d:=⟨ntl l,h,(l_e h.2.1).symm⟩
theorem f_d (v:Value) (l:List Int) (hl:RI l) (w:World) (hv:Nums .i64 w v l):
  Calls Tryz.prog 160 #[v] w fun e w'=>∃ v',e = .returned v'/\OwnK .i64 3 w' w.heap.size v' (c_H l)/\Below w.heap.size w w':=by
 have cg:=b_X v l hl w hv;obtain ⟨p,n,c,rfl,HC⟩:=hv.lst;clear hv hl;by_cases D:goodN (ntl l)
 ·rw [decide_eq_true D] at cg;have R:c_H l=itl (a_w (ntl l)):=if_pos D;rw [R];clear R;obtain ⟨d,hd,rfl⟩:=b_k D;rw [a_o];have HD:Hid (goodN d):=hd;obtain ⟨L,R⟩:∃ L,itl (a_w d)=L:=⟨_,rfl⟩
  have HL:Hid (itl (a_w d)=L):=R;have ab:L.length=n:=by rw [<- R,a_v,b_R,<- a_v d];exact HC.out.1
  have I:Hid (L.length=n):=ab;have J:Hid (d.length=n):=by show _=_;rw [<- a_v d];exact HC.out.1
  rw [R];have hn:n<=4:=by rw [<- J.out];exact hd.1
  have ak:(n:Int)<=4:=by omega
  clear D hd R ab;go_enter Tryz.func160,Tryz.ntmps160;go_wp2_with fail
  refine cg.mono ?_;rintro e H ⟨rfl,rfl⟩;clear cg;go_wp2_with (at_make;refine a_z i_e (by decide) _ rfl (.tmp 10) (.tmp 10) rfl .i64 .i64 n n n rfl rfl rfl rfl (by omega) H.heap.size H (Nat.le_refl _) (Below.refl _ _) ?_;intro w1 HO B0 B1;clear B0)
  rw [<- I.out,<- h_u L,I.out] at HO
  go_loopg [4,5] n (fun gg u v wr=>∃ (k:Nat) (x i:Int),k<=n/\gg=n - k/\u = .int .i64 x/\v = .int .i64 i/\Hid (i=(n:Int) - 1 - (k:Int))/\Hid (x=sK d k)/\Hid (OwnK .i64 3 wr H.heap.size (.slice (some ⟨H.heap.size,0,none⟩) n n) (k_n L k))/\Hid (Below H.heap.size H wr))
  case atStart=>exact ⟨0,1,(n:Int) - 1,by omega,by omega,rfl,by first|rfl|simp,by show _=_;omega,(p_C d).symm,HO,B1⟩
  case round=>
   obtain ⟨k,x,i,hk,hg,rfl,rfl,Hi,Hx,HR,hB⟩:=hrel;by_cases am:k < n
   ·obtain ⟨j,hj⟩:∃ j,j=n - 1 - k:=⟨_,rfl⟩
    have ad:i=(j:Int):=by have:=Hi.out;omega
    subst ad;have U:j < n:=by omega
    have af:(j:Int) < (n:Int):=by omega
    have Hj:Hid (j+k+1=n):=by show _=_;omega
    clear hj;obtain ⟨q,o,rfl,O⟩:=(HC.out.up hB.out).2 j U;have ai:=HC.out.block (by omega);obtain ⟨ae,ah⟩:=HR.out.cell (by rw [e_Q];exact I.out) j U;have hx:=o_0 HD.out k;have V:=o_0 HD.out (k+1);rw [l_i d j k (by rw [J.out];exact Hj.out)] at V;rw [a_O] at O;have hy:=HD.out.at j (by rw [J.out];exact U);obtain ⟨y,ey⟩:∃ y:Int,((d.getD j 0:Nat):Int)=y:=⟨_,rfl⟩
    rw [<- Hx.out] at hx V;obtain ⟨m,em⟩:∃ m,x*y=m:=⟨_,rfl⟩
    have Hm:Hid (m=sK d (k+1)):=by show _=_;rw [l_i d j k (by rw [J.out];exact Hj.out),<- Hx.out,ey,em]
    have ag:1<=y/\y<=4096:=by omega
    rw [ey] at O V;rw [em] at V
    have H2:Hid (OwnK .i64 3 (wr.setCell ⟨H.heap.size,j,none⟩ (.int .i64 x)) H.heap.size (.slice (some ⟨H.heap.size,0,none⟩) n n) (k_n L (k+1))):=by
     have:=HR.out.store (by rw [e_Q];exact I.out) j x;rw [show x=L.getD j 0 by rw [Hx.out,<- HL.out,f_8 d j k (by rw [J.out];exact Hj.out)],j_h L j k (by rw [I.out];exact Hj.out)] at this;rw [show x=L.getD j 0 by rw [Hx.out,<- HL.out,f_8 d j k (by rw [J.out];exact Hj.out)]];exact this
    have aa:Hid (Below H.heap.size H (wr.setCell ⟨H.heap.size,j,none⟩ (.int .i64 x))):=hB.out.setCell (p:=⟨H.heap.size,j,none⟩) (Nat.le_refl _) _
    have ac:=a_h aa.out (show H.cell? ⟨q,o+j,none⟩=some (.int .i64 y) by
     obtain ⟨q',o',e',h'⟩:=HC.out.2 j U;cases e';rw [h',a_O,ey])
    have an:¬ q=H.heap.size:=by omega
    clear ey hy;go_wp2;go_roundg (n - (k+1))
    case measure=>omega
    case rel=>exact ⟨k+1,m,(j:Int) - 1,by omega,rfl,by first|rfl|simp [em],by first|rfl|simp,by have:=Hj.out;show _=_;omega,Hm,H2,aa⟩
   ·obtain rfl:k=n:=by omega
    have aj:i < 0:=by have:=Hi.out;omega
    have M:=HR.out;rw [<- I.out,h_v,I.out] at M;have HF:Hid (OwnK .i64 3 wr H.heap.size (.slice (some ⟨H.heap.size,0,none⟩) k k) L/\Below H.heap.size H wr):=⟨M,hB.out⟩
    clear M;go_wp2;exact bodyPost_ret (v:=.slice (some ⟨H.heap.size,0,none⟩) k k) (by simp [results,Tryz.results160,go_sem]) rfl ⟨_,rfl,HF.out⟩
 ·rw [decide_eq_false D] at cg;have R:c_H l = []:=if_neg D;rw [R];clear R D;go_enter Tryz.func160,Tryz.ntmps160;go_wp2_with fail
  refine cg.mono ?_;rintro e H ⟨rfl,rfl⟩;go_wp2;exact bodyPost_ret (v:=.slice none 0 0) (by simp [results,Tryz.results160,go_sem]) rfl ⟨_,rfl,OwnK.nil _ _ _ _,Below.refl _ _⟩
theorem j_i (v:Value) (d:List Nat) (M:goodN d) (k:Nat) (hk:1<=k/\k<=4) (w:World) (L:Nums .i64 w v (itl d)):
  Calls Tryz.prog 159 #[v,.int .i64 (k:Int)] w fun e w'=>e = .returned (.int .i64 ((a_U d k:Nat):Int))/\w'=w:=by
 obtain ⟨p,n,c,rfl,U⟩:=L.lst;have D:d.length=n:=by rw [<- a_v d];exact U.out.1
 have hn:n<=4:=by rw [<- D];exact M.1
 have aa:(n:Int)<=4:=by omega
 obtain ⟨r,J⟩:∃ r:Int,((a_U d k:Nat):Int)=r:=⟨_,rfl⟩
 by_cases ab:n < k
 ·have I:(n:Int) < (k:Int):=by omega
  rw [c_5 d k (by omega)];clear L J D M;go_enter Tryz.func159,Tryz.ntmps159;go_wp2;go_ret;exact ⟨rfl,rfl⟩
 ·have I:(k:Int)<=(n:Int):=by omega
  obtain ⟨j,R⟩:∃ j,j=n - k:=⟨_,rfl⟩
  have V:(n:Int) - (k:Int)=(j:Int):=by omega
  have ac:(j:Int) < (n:Int):=by omega
  have O:=l_j d k hk.1 (by omega);rw [D,<- R,J] at O;obtain ⟨q,o,rfl,H⟩:=U.out.2 j (by omega);rw [O] at H;rw [J];clear L J D M O R;go_enter Tryz.func159,Tryz.ntmps159;go_wp2;go_ret;exact ⟨rfl,rfl⟩
theorem k_p (x y:Int) (w:World):
  Calls Tryz.prog 158 #[.int .i64 x,.int .i64 y] w fun e O=>e = .returned (.tuple #[.int .i64 (jnd x y),.bool (jok x y)])/\O=w:=by
 by_cases D:x=1
 ·subst D;rw [show jnd 1 y=y from rfl,show jok 1 y=true by unfold jok;exact decide_eq_true (.inl rfl)];go_enter Tryz.func158,Tryz.ntmps158;go_wp2;go_ret2;exact ⟨rfl,rfl⟩
 ·rw [show jnd x y=x from if_neg D];have L:(x==1)=false:=by simp [D]
  by_cases I:y=1
  ·subst I;rw [show jok x 1=true by unfold jok;exact decide_eq_true (.inr (.inl rfl))];go_enter Tryz.func158,Tryz.ntmps158;go_wp2;go_ret2;exact ⟨rfl,rfl⟩
  ·have M:(y==1)=false:=by simp [I]
   have J:jok x y=(x==y):=by
    unfold jok;by_cases h:x=y
    ·rw [decide_eq_true (.inr (.inr h))];simp [h]
    ·rw [decide_eq_false (by rintro (H|H|H) <;> contradiction)];simp [h]
   rw [J];clear J;go_enter Tryz.func158,Tryz.ntmps158;go_wp2;go_ret2;exact ⟨rfl,rfl⟩
theorem j_j {d:List Nat} (h:∀ x,x∈d->x<=4096):RI (itl d):=by
 intro y D;obtain ⟨x,H,rfl⟩:=List.mem_map.1 D;have:=h x H;omega
theorem p_H {a b:List Nat} (D:goodN a) (hb:goodN b):RI (itl (joinN a b)):=by
 refine j_j fun x H=>?_;obtain ⟨j,_,rfl⟩:=List.mem_map.1 H;have I:=e_R D (max a.length b.length - j);have J:=e_R hb (max a.length b.length - j);show max _ _<=4096;omega
theorem i_j {P:Program} {w:World} (D:Array TypeId) (t:TypeId) (k H:IntKind) (x y:Nat):(Builtin.max_ D t #[.int k (x:Int),.int H (y:Int)]).run P w = .ok (.int k ((max x y:Nat):Int)) w:=by
 rw [run_max_int2]
 congr 2
 split <;> omega
theorem g_A (u v:Value) (a b:List Int) (ha:RI a) (hb:RI b) (w:World) (hu:Nums .i64 w u a) (hv:Nums .i64 w v b):
  Calls Tryz.prog 131 #[u,v] w fun e w'=>∃ v',e = .returned (.tuple #[v',.int .i64 (b_w a b)])/\OwnK .i64 3 w' w.heap.size v' (b_T a b)/\Below w.heap.size w w':=by
 have ca:=b_X u a ha w hu;have cb:=b_X v b hb w hv;have HU:Hid (Nums .i64 w u a):=hu;have HV:Hid (Nums .i64 w v b):=hv;obtain ⟨p,n,c,rfl,HA⟩:=hu.lst;obtain ⟨p2,n2,c2,rfl,HB⟩:=hv.lst;clear hu hv ha hb;by_cases R:goodN (ntl a)
 ·rw [decide_eq_true R] at ca;by_cases V:goodN (ntl b)
  ·rw [decide_eq_true V] at cb;obtain ⟨a,ha,rfl⟩:=b_k R;obtain ⟨b,hb,rfl⟩:=b_k V;have aa:a.length=n:=by rw [<- a_v a];exact HA.out.1
   have ab:b.length=n2:=by rw [<- a_v b];exact HB.out.1
   have aj:n<=4:=by rw [<- aa];exact ha.1
   have am:n2<=4:=by rw [<- ab];exact hb.1
   obtain ⟨m,em⟩:∃ m,max n n2=m:=⟨_,rfl⟩
   have hm:m<=4:=by omega
   have ao:(m:Int)<=4:=by omega
   have O:Hid (goodN a/\goodN b/\max a.length b.length=m):=⟨ha,hb,by rw [aa,ab];exact em⟩
   obtain ⟨L,eL⟩:∃ L,itl (joinN a b)=L:=⟨_,rfl⟩
   have HL:Hid (itl (joinN a b)=L/\L.length=m):=⟨eL,by rw [<- eL,a_v,a_5];exact O.out.2.2⟩
   obtain ⟨X,eX⟩:∃ X,b_T (itl a) (itl b)=X:=⟨_,rfl⟩
   obtain ⟨E,eE⟩:∃ E,b_w (itl a) (itl b)=E:=⟨_,rfl⟩
   have HX:Hid (b_T (itl a) (itl b)=X/\b_w (itl a) (itl b)=E):=⟨eX,eE⟩
   have Hm:Hid (max n n2=m):=em;rw [eX,eE];clear R V ha hb aa ab eL eX eE HA HB;have ac:∀ (ts:Array TypeId) (t:TypeId) (w:World),(Builtin.max_ ts t #[.int .i64 (n:Int),.int .i64 (n2:Int)]).run Tryz.prog w = .ok (.int .i64 (m:Int)) w:=fun ts t w=>by rw [i_j,em]
   clear em;go_enter Tryz.func131,Tryz.ntmps131;go_wp2_with fail
   refine ca.mono ?_;rintro e D ⟨rfl,rfl⟩;clear ca;go_wp2_with fail
   refine cb.mono ?_;rintro e D ⟨rfl,rfl⟩;clear cb;go_wp2_with (at_make;refine a_z i_e (by decide) _ rfl (.tmp 22) (.tmp 22) rfl .i64 .i64 m m m rfl rfl rfl rfl (by omega) D.heap.size D (Nat.le_refl _) (Below.refl _ _) ?_;intro w1 HO B0 B1;clear B0)
   clear ac;rw [<- HL.out.2,<- h_u L,HL.out.2] at HO
   go_loopg [7] m (fun gg v wr=>∃ (k:Nat),k<=m/\gg=m - k/\v = .int .i64 ((k:Int)+1)/\Hid (∀ i,1<=i->i<=k->j_e (a_U a i) (a_U b i))/\Hid (OwnK .i64 3 wr D.heap.size (.slice (some ⟨D.heap.size,0,none⟩) m m) (k_n L k))/\Hid (Below D.heap.size D wr))
   case atStart=>exact ⟨0,by omega,by omega,by first|rfl|simp,fun i h1 h2=>by omega,HO,B1⟩
   case round=>
    obtain ⟨k,hk,hg,rfl,Hx,HR,hB⟩:=hrel;by_cases ak:k < m
    ·have ag:(k:Int)+1<=(m:Int):=by omega
     have c1:=j_i _ a O.out.1 (k+1) ⟨by omega,by omega⟩ wr (HU.out.up hB.out);have c2:=j_i _ b O.out.2.1 (k+1) ⟨by omega,by omega⟩ wr (HV.out.up hB.out);rw [show ((k+1:Nat):Int)=(k:Int)+1 by omega] at c1 c2;have s1:=e_R O.out.1 (k+1);have s2:=e_R O.out.2.1 (k+1);have M:=p_E (a_U a (k+1)) (a_U b (k+1));have J:=p_F (a_U a (k+1)) (a_U b (k+1)) s1.1 s2.1;obtain ⟨x,ex⟩:∃ x:Int,((a_U a (k+1):Nat):Int)=x:=⟨_,rfl⟩
     obtain ⟨y,ey⟩:∃ y:Int,((a_U b (k+1):Nat):Int)=y:=⟨_,rfl⟩
     rw [ex] at c1 M J;rw [ey] at c2 M J;have c3:=fun W=>k_p x y W;obtain ⟨j,hj⟩:∃ j,j=m - 1 - k:=⟨_,rfl⟩
     have ae:j < m:=by omega
     have an:(m:Int) - ((k:Int)+1)=(j:Int):=by omega
     have ai:(j:Int) < (m:Int):=by omega
     have Hj:Hid (j+k+1=m):=by show _=_;omega
     clear hj ex ey s1 s2;by_cases hf:j_e (a_U a (k+1)) (a_U b (k+1))
     ·rw [decide_eq_true hf] at M;have J:=J hf;rw [M] at c3;obtain ⟨z,ez⟩:∃ z,jnd x y=z:=⟨_,rfl⟩
      rw [ez] at c3 J
      have HZ:Hid (z=L.getD j 0):=by
       show _=_;rw [J,<- HL.out.1,p_D a b j k (by rw [O.out.2.2];exact Hj.out)]
      have Hn:Hid (∀ i,1<=i->i<=k+1->j_e (a_U a i) (a_U b i)):=fun i h1 h2=>by
       rcases Nat.lt_or_ge k i with h|h
       ·rw [show i=k+1 by omega];exact hf
       ·exact Hx.out i h1 h
      obtain ⟨af,ah⟩:=HR.out.cell (by rw [e_Q];exact HL.out.2) j ae
      have H2:Hid (OwnK .i64 3 (wr.setCell ⟨D.heap.size,j,none⟩ (.int .i64 z)) D.heap.size (.slice (some ⟨D.heap.size,0,none⟩) m m) (k_n L (k+1))):=by
       have:=HR.out.store (by rw [e_Q];exact HL.out.2) j z;rw [HZ.out,j_h L j k (by rw [HL.out.2];exact Hj.out)] at this;rw [HZ.out];exact this
      have ad:Hid (Below D.heap.size D (wr.setCell ⟨D.heap.size,j,none⟩ (.int .i64 z))):=hB.out.setCell (p:=⟨D.heap.size,j,none⟩) (Nat.le_refl _) _;clear hf M J ez Hx;go_wp2_with fail
      refine c1.mono ?_;rintro e w5 ⟨rfl,rfl⟩;go_wp2_with fail
      refine c2.mono ?_;rintro e w5 ⟨rfl,rfl⟩;go_wp2_with fail
      refine (c3 _).mono ?_;rintro e w5 ⟨rfl,rfl⟩;go_wp2;go_roundg (m - (k+1))
      case measure=>omega
      case rel=>exact ⟨k+1,by omega,rfl,by first|rfl|simp,Hn,H2,ad⟩
     ·rw [decide_eq_false hf] at M;rw [M] at c3;have hX:=i_i O.out.1 O.out.2.1 (fun h=>hf (h (k+1) (by omega) (by rw [O.out.2.2];omega)));rw [HX.out.1,HX.out.2] at hX;obtain ⟨rfl,rfl⟩:=hX;clear hf M J Hx;go_wp2_with fail
      refine c1.mono ?_;rintro e w5 ⟨rfl,rfl⟩;go_wp2_with fail
      refine c2.mono ?_;rintro e w5 ⟨rfl,rfl⟩;go_wp2_with fail
      refine (c3 _).mono ?_;rintro e w5 ⟨rfl,rfl⟩;go_wp2;go_ret2;exact ⟨_,rfl,OwnK.nil _ _ _ _,hB.out⟩
    ·obtain rfl:k=m:=by omega
     have I:=HR.out;rw [<- HL.out.2,h_v,HL.out.2] at I;have HF:Hid (OwnK .i64 3 wr D.heap.size (.slice (some ⟨D.heap.size,0,none⟩) k k) L/\Below D.heap.size D wr):=⟨I,hB.out⟩
     have H:b_W a b:=fun i h1 h2=>Hx.out i h1 (by rw [O.out.2.2] at h2;exact h2);have cg:=b_X _ L (by rw [<- HL.out.1];exact p_H O.out.1 O.out.2.1) wr I.nums;rw [<- HL.out.1,a_o] at cg;by_cases U:goodN (joinN a b)
     ·rw [decide_eq_true U] at cg;have hX:=b_o O.out.1 O.out.2.1 H U;rw [HX.out.1,HX.out.2,HL.out.1] at hX;obtain ⟨rfl,rfl⟩:=hX;clear I H U Hx;go_wp2_with fail
      refine cg.mono ?_;rintro e w5 ⟨rfl,rfl⟩;go_wp2;go_ret2;exact ⟨_,rfl,HF.out⟩
     ·rw [decide_eq_false U] at cg;have hX:=k_o O.out.1 O.out.2.1 H U;rw [HX.out.1,HX.out.2] at hX;obtain ⟨rfl,rfl⟩:=hX;clear I H U Hx;go_wp2_with fail
      refine cg.mono ?_;rintro e w5 ⟨rfl,rfl⟩;go_wp2;go_ret2;exact ⟨_,rfl,OwnK.nil _ _ _ _,HF.out.2⟩
  ·rw [decide_eq_false V] at cb;obtain ⟨e1,e2⟩:=h_w (a:=a) (b:=b) fun h=>V h.2;rw [e1,e2];clear e1 e2 R V;go_enter Tryz.func131,Tryz.ntmps131;go_wp2_with fail
   refine ca.mono ?_;rintro e D ⟨rfl,rfl⟩;go_wp2_with fail
   refine cb.mono ?_;rintro e D ⟨rfl,rfl⟩;go_wp2;go_ret2;exact ⟨_,rfl,OwnK.nil _ _ _ _,Below.refl _ _⟩
 ·rw [decide_eq_false R] at ca;obtain ⟨e1,e2⟩:=h_w (a:=a) (b:=b) fun h=>R h.1;rw [e1,e2];clear e1 e2 R;go_enter Tryz.func131,Tryz.ntmps131;go_wp2_with fail
  refine ca.mono ?_;rintro e D ⟨rfl,rfl⟩;go_wp2;go_ret2;exact ⟨_,rfl,OwnK.nil _ _ _ _,Below.refl _ _⟩
theorem a_l {w D:World} {B:Nat} (h:Below B w D) (n:Nat):Below B w (D.drewN n):=h.trans ⟨rfl,rfl,rfl,Nat.le_refl _,fun _ _=>rfl⟩
theorem a_b (W:World) (o:Obj):Below W.heap.size W (W.alloc o):=(Below.refl _ _).alloc (Nat.le_refl _) _
theorem a_c {w D H:World} (h:Below w.heap.size w D) (I:Below D.heap.size D H):Below w.heap.size w H:=h.trans (I.mono h.size)
theorem g_a {w D:World} (h:Below w.heap.size w D) (o:Obj):Below w.heap.size w (D.alloc o):=h.trans ((a_b D o).mono h.size)
theorem z0:((f_a (ntl []):Nat):Int)=1:=by decide +kernel
theorem g0:decide (goodN (ntl []))=true:=by decide +kernel
theorem f_e {k:IntKind} {e:TypeId} (W:World) (o:Obj) (l:List Int) (n:Nat) (D:Nat×Nat) (h:l.length=n):Nums k ((W.alloc o).alloc (.cells (b_c k l).toArray e D)) (.slice (some ⟨W.heap.size+1,0,none⟩) n n) l:=by
 have:=a_3 (k:=k) (e:=e) (W.alloc o) l n D h;rw [show (W.alloc o).heap.size=W.heap.size+1 from Array.size_push _] at this;exact this
/-- An order names each of n places once. -/
def d_H (n:Nat) (o:List Nat):Prop:=o.length=n/\(∀ x,x∈o->x < n)/\∀ j,j < n->∃ k,k < n/\o.getD k 0=j
/-- The sides in that order. -/
def b_7 (d o:List Nat):List Nat:=o.map fun j=>d.getD j 0
theorem b_E (d o:List Nat):(b_7 d o).length=o.length:=by simp [b_7]
theorem f_f (d o:List Nat) (k:Nat) (h:k < o.length):(b_7 d o).getD k 0=d.getD (o.getD k 0) 0:=by
 rw [a_r _ k 0 (by rw [b_E];exact h),a_r o k 0 h];simp [b_7]
def p_I (o p:List Nat) (n:Nat):Nat->List Nat
 | 0=>List.replicate n 0
 | k+1=>(p_I o p n k).set (o.getD k 0) (p.getD k 0)
theorem g_B (o p:List Nat) (n:Nat):∀ k,(p_I o p n k).length=n
 | 0=>by simp [p_I]
 | k+1=>by rw [p_I,List.length_set,g_B o p n k]
theorem g_C (l:List Nat) (j i x:Nat) (h:i < l.length):(l.set j x).getD i 0=if j=i then x else l.getD i 0:=by
 rw [List.getD_eq_getElem?_getD,List.getElem?_set,List.getD_eq_getElem?_getD];by_cases e:j=i
 ·subst e;rw [if_pos rfl,if_pos rfl,if_pos h];rfl
 ·rw [if_neg e,if_neg e]
theorem f_g {n:Nat} {o:List Nat} (h:d_H n o):∀ i k,i < n->k < n->o.getD i 0=o.getD k 0->i=k:=by
 -- as many names as places: none is named twice
 have ah:∀ (m:Nat) (f:Nat->Nat),(∀ j,j < m->∃ k,k < m/\f k=j)->(∀ k,k < m->f k < m)->∀ i k,i < m->k < m->f i=f k->i=k:=by
  intro m
  induction m with
  | zero=>intro f _ _ i k V;omega
  | succ m ih=>
   intro f U hb i k V O e
   -- the place that is named m is changed with the last one
   obtain ⟨t,ht,ft⟩:=U m (by omega)
   let g:Nat->Nat:=fun x=>if x=t then f m else f x
   have ai:∀ x,x < m->g x < m∨(g x=m/\False)∨g x=m:=by
    intro x R;by_cases I:x=t
    ·have:g x=f m:=if_pos I;have:=hb m (by omega);omega
    ·have:g x=f x:=if_neg I;have:=hb x (by omega);omega
   by_cases hu:∃ x,x < m+1/\x≠t/\f x=m
   ·-- m is named twice: then one below m is not named at all
    exfalso;obtain ⟨x,R,I,fx⟩:=hu
    -- strike x: g' over the others still reaches all
    let s:Nat->Nat:=fun y=>if y < x then f y else f (y+1)
    have:∀ j,j < m->∃ k,k < m/\s k=j:=by
     intro j hj;obtain ⟨k,O,fk⟩:=U j (by omega)
     have aj:k≠x:=by
      intro e;subst e;omega
     by_cases H:k < x
     ·exact ⟨k,by omega,by show (if k < x then f k else f (k+1))=j;rw [if_pos H];exact fk⟩
     ·exact ⟨k - 1,by omega,by show (if k - 1 < x then f (k - 1) else f (k - 1+1))=j;rw [if_neg (by omega),show k - 1+1=k by omega];exact fk⟩
    -- t is left among them and is named m: so m numbers are reached by m - 1 places
    have ad:∀ (m:Nat) (s:Nat->Nat),(∀ j,j < m->∃ k,k < m/\s k=j)->∀ y,y < m->s y < m:=by
     intro m
     induction m with
     | zero=>intro s _ y hy;omega
     | succ m ih=>
      intro s U y hy;rcases Nat.lt_or_ge (s y) (m+1) with h|h
      ·exact h
      ·exfalso;obtain ⟨t,ht,st⟩:=U m (by omega);have ak:t≠y:=by intro e;subst e;omega
       -- strike t: the others reach all below m;y is among them
       have M:=ih (fun z=>if z < t then s z else s (z+1)) (by
        intro j hj;obtain ⟨k,O,sk⟩:=U j (by omega);have D:k≠t:=by intro e;subst e;omega
        by_cases H:k < t
        ·exact ⟨k,by omega,by show (if k < t then s k else s (k+1))=j;rw [if_pos H];exact sk⟩
        ·exact ⟨k - 1,by omega,by show (if k - 1 < t then s (k - 1) else s (k - 1+1))=j;rw [if_neg (by omega),show k - 1+1=k by omega];exact sk⟩)
       by_cases H:y < t
       ·have:=M y (by omega);rw [if_pos H] at this;omega
       ·have:=M (y - 1) (by omega);rw [if_neg (by omega),show y - 1+1=y by omega] at this;omega
    have h3:=ad m s this;by_cases H:t < x
    ·have:=h3 t (by omega);have e2:s t=f t:=if_pos H;omega
    ·have:=h3 (t - 1) (by omega);have e2:s (t - 1)=f (t - 1+1):=if_neg (by omega);rw [show t - 1+1=t by omega] at e2;omega
   ·have J:∀ x,x < m+1->x≠t->f x < m:=fun x R I=>by
     have h1:=hb x R;have M:f x≠m:=fun e=>hu ⟨x,R,I,e⟩;omega
    have ac:∀ j,j < m->∃ k,k < m/\g k=j:=by
     intro j hj;obtain ⟨k,O,fk⟩:=U j (by omega);have D:k≠t:=by intro e;subst e;omega
     by_cases ae:k=m
     ·subst ae;exact ⟨t,by omega,by show (if t=t then f k else f t)=j;rw [if_pos rfl];exact fk⟩
     ·exact ⟨k,by omega,by show (if k=t then f m else f k)=j;rw [if_neg D];exact fk⟩
    have ag:∀ k,k < m->g k < m:=by
     intro k O;show (if k=t then f m else f k) < m;by_cases D:k=t
     ·rw [if_pos D];subst D;exact J m (by omega) (by omega)
     ·rw [if_neg D];exact J k (by omega) D
    have af:=ih g ac ag
    -- back to f
    have aa:∀ x,x < m+1->x≠t->∃ y,y < m/\g y=f x/\(y=if x=m then t else x):=by
     intro x R I;by_cases ab:x=m
     ·subst ab;exact ⟨t,by omega,by show (if t=t then f x else f t)=f x;rw [if_pos rfl],by rw [if_pos rfl]⟩
     ·exact ⟨x,by omega,by show (if x=t then f m else f x)=f x;rw [if_neg I],by rw [if_neg ab]⟩
    by_cases L:i=t
    ·by_cases D:k=t
     ·rw [L,D]
     ·have:=J k O D;rw [L,ft] at e;omega
    ·by_cases D:k=t
     ·have:=J i V L;rw [D,ft] at e;omega
     ·obtain ⟨y,hy,gy,ey⟩:=aa i V L;obtain ⟨z,hz,gz,ez⟩:=aa k O D;have:=af y z hy hz (by rw [gy,gz];exact e);subst this;rw [ey] at ez;by_cases h1:i=m
      ·by_cases M:k=m
       ·omega
       ·rw [if_pos h1,if_neg M] at ez;omega
      ·by_cases M:k=m
       ·rw [if_neg h1,if_pos M] at ez;omega
       ·rw [if_neg h1,if_neg M] at ez;exact ez
 intro i k V O e
 exact ah n (fun x=>o.getD x 0) h.2.2 (fun x R=>by
  show o.getD x 0 < n;rw [a_r o x 0 (by rw [h.1];exact R)];exact h.2.1 _ (List.getElem_mem _)) i k V O e
/-- As many places, none named twice: each is named. -/
theorem g_D:∀ (m:Nat) (f:Nat->Nat),(∀ k,k < m->f k < m)->(∀ i k,i < m->k < m->f i=f k->i=k)->∀ j,j < m->∃ k,k < m/\f k=j:=by
 intro m
 induction m with
 | zero=>intro f _ _ j hj;omega
 | succ m ih=>
  intro f hb I j hj
  have hm:∃ k,k < m+1/\f k=m:=by
   rcases Nat.lt_or_ge (f m) m with hv|hv
   ·-- else the first m would be named by the first m alone
    by_cases J:∃ k,k < m+1/\f k=m
    ·exact J
    ·exfalso
     obtain ⟨k,O,e⟩:=ih f (fun k O=>by
      have U:=hb k (by omega);have V:f k≠m:=fun e=>J ⟨k,by omega,e⟩;omega) (fun i k M L e=>I i k (by omega) (by omega) e) (f m) hv
     have:=I k m (by omega) (by omega) e;omega
   ·exact ⟨m,by omega,by have:=hb m (by omega);omega⟩
  obtain ⟨t,R,ft⟩:=hm;by_cases aa:j=m
  ·exact ⟨t,R,by omega⟩
  ·have hg:=ih (fun k=>if k=t then f m else f k) (fun k O=>by
    show (if k=t then f m else f k) < m;by_cases D:k=t
    ·rw [if_pos D];have U:=hb m (by omega)
     have V:f m≠m:=fun e=>by
      have:=I m t (by omega) R (by omega);omega
     omega
    ·rw [if_neg D];have U:=hb k (by omega);have V:f k≠m:=fun e=>D (I k t (by omega) R (by omega));omega) (fun i k M L e=>by
    have e:(if i=t then f m else f i)=(if k=t then f m else f k):=e;by_cases H:i=t
    ·by_cases D:k=t
     ·omega
     ·rw [if_pos H,if_neg D] at e;have:=I m k (by omega) (by omega) e;omega
    ·by_cases D:k=t
     ·rw [if_neg H,if_pos D] at e;have:=I i m (by omega) (by omega) e;omega
     ·rw [if_neg H,if_neg D] at e;exact I i k (by omega) (by omega) e) j (by omega)
   obtain ⟨k,O,e⟩:=hg;have e:(if k=t then f m else f k)=j:=e;by_cases D:k=t
   ·rw [if_pos D] at e;exact ⟨m,by omega,e⟩
   ·rw [if_neg D] at e;exact ⟨k,by omega,e⟩
theorem n_x {n:Nat} {o:List Nat} (H:o.length=n) (hb:∀ k,k < n->o.getD k 0 < n) (I:∀ i k,i < n->k < n->o.getD i 0=o.getD k 0->i=k):d_H n o:=by
 refine ⟨H,fun x J=>?_,g_D n (fun k=>o.getD k 0) hb I⟩;obtain ⟨k,D,rfl⟩:=List.mem_iff_getElem.1 J;have:=hb k (by omega);rw [a_r o k 0 D] at this;exact this
theorem l_n {n:Nat} {o:List Nat} (h:d_H n o) (p:List Nat):∀ k,k<=n->∀ i,i < k->(p_I o p n k).getD (o.getD i 0) 0=p.getD i 0
 | 0,_,i,hi=>by omega
 | k+1,hk,i,hi=>by
  have D:∀ x,x < n->o.getD x 0 < n:=fun x I=>by
   rw [a_r o x 0 (by rw [h.1];exact I)];exact h.2.1 _ (List.getElem_mem _)
  rw [p_I,g_C _ _ _ _ (by rw [g_B];exact D i (by omega))];by_cases e:o.getD k 0=o.getD i 0
  ·rw [if_pos e,f_g h k i (by omega) (by omega) e]
  ·rw [if_neg e]
   exact l_n h p k (by omega) i (by
    have:i≠k:=fun H=>e (by rw [H]);omega)
def unp (o p:List Nat) (n:Nat):List Nat:=p_I o p n n
theorem l_o (o p:List Nat) (n:Nat):(unp o p n).length=n:=g_B o p n n
theorem o_2 {n:Nat} {o:List Nat} (h:d_H n o) (p:List Nat) (i:Nat) (D:i < n):(unp o p n).getD (o.getD i 0) 0=p.getD i 0:=l_n h p n (Nat.le_refl _) i D
theorem k_q {d o p:List Nat} (h:d_H d.length o) (L:d_W (b_7 d o) p):d_W d (unp o p d.length):=by
 refine h_n (l_o _ _ _) fun j x y M R=>?_;have O:j < d.length:=(List.getElem?_eq_some_iff.1 M).1;obtain ⟨k,D,e⟩:=h.2.2 j O;have I:=o_2 h p k D;rw [e,List.getD_eq_getElem?_getD,R] at I;have J:=f_f d o k (by rw [h.1];exact D);rw [e,List.getD_eq_getElem?_getD (l:=d),M] at J;have H:p.length=o.length:=by rw [f_5 L,b_E]
 have U:=f_6 L k ((b_7 d o).getD k 0) (p.getD k 0) (by rw [List.getElem?_eq_getElem (by rw [b_E,h.1];exact D),a_r _ k 0 (by rw [b_E,h.1];exact D)]) (by rw [List.getElem?_eq_getElem (by rw [H,h.1];exact D),a_r _ k 0 (by rw [H,h.1];exact D)]);have I:y=p.getD k 0:=I;have J:(b_7 d o).getD k 0=x:=J;omega
/-- The product of m numbers, place by place. -/
def c_I (f:Nat->Nat):Nat->Nat
 | 0=>1
 | m+1=>c_I f m*f m
theorem b_8 {f g:Nat->Nat}:∀ m,(∀ k,k < m->f k=g k)->c_I f m=c_I g m
 | 0,_=>rfl
 | m+1,h=>by rw [c_I,c_I,b_8 m fun k D=>h k (by omega),h m (by omega)]
theorem h_x (f:Nat->Nat) (t x:Nat):∀ m,t < m->c_I f m*x=c_I (fun k=>if k=t then x else f k) m*f t
 | 0,h=>by omega
 | m+1,h=>by
  rw [c_I,c_I];by_cases e:t=m
  ·subst e;rw [if_pos rfl,b_8 (g:=fun k=>if k=t then x else f k) t fun k D=>by rw [if_neg (by omega)]];rw [Nat.mul_assoc,Nat.mul_assoc,Nat.mul_comm (f t)]
  ·rw [if_neg (by omega),Nat.mul_assoc,Nat.mul_comm (f m),<- Nat.mul_assoc,h_x f t x m (by omega),Nat.mul_assoc,Nat.mul_assoc,Nat.mul_comm (f t)]
theorem k_r (d:Nat->Nat):∀ (m:Nat) (f:Nat->Nat),(∀ k,k < m->f k < m)->(∀ i k,i < m->k < m->f i=f k->i=k)->c_I (fun k=>d (f k)) m=c_I d m:=by
 intro m
 induction m with
 | zero=>intro f _ _;rfl
 | succ m ih=>
  intro f hb J;obtain ⟨t,ht,ft⟩:=g_D (m+1) f hb J m (by omega)
  have I:∀ k,k < m+1->k≠t->f k < m:=fun k L D=>by
   have U:=hb k L;have V:f k≠m:=fun e=>D (J k t L ht (by omega));omega
  by_cases R:t=m
  ·subst R;rw [c_I,c_I,ft,ih f (fun k L=>I k (by omega) (by omega)) fun i k O M e=>J i k (by omega) (by omega) e]
  ·have U:=h_x (fun k=>d (f k)) t (d (f m)) m (by omega);rw [c_I,c_I,U];show c_I (fun k=>if k=t then d (f m) else d (f k)) m*d (f t)=c_I d m*d m;rw [ft]
   congr 1
   have V:=ih (fun k=>if k=t then f m else f k) (fun k L=>by
    show (if k=t then f m else f k) < m;by_cases D:k=t
    ·rw [if_pos D];exact I m (by omega) (by omega)
    ·rw [if_neg D];exact I k (by omega) D) (fun i k O M e=>by
    have e:(if i=t then f m else f i)=(if k=t then f m else f k):=e;by_cases H:i=t
    ·by_cases D:k=t
     ·omega
     ·rw [if_pos H,if_neg D] at e;have:=J m k (by omega) (by omega) e;omega
    ·by_cases D:k=t
     ·rw [if_neg H,if_pos D] at e;have:=J i m (by omega) (by omega) e;omega
     ·rw [if_neg H,if_neg D] at e;exact J i k (by omega) (by omega) e)
   rw [<- V]
   exact b_8 m fun k L=>by
    by_cases D:k=t
    ·rw [if_pos D,if_pos D]
    ·rw [if_neg D,if_neg D]
theorem l_p:∀ (m:Nat) (d:List Nat),d.length=m->a_e d=c_I (fun k=>d.getD k 0) m:=by
 intro m
 induction m with
 | zero=>
  intro d h;have:d = []:=List.eq_nil_of_length_eq_zero h;subst this;rfl
 | succ m ih=>
  intro d h
  have e:d=d.take m++[d.getD m 0]:=by
   have D:=List.take_succ_eq_append_getElem (l:=d) (i:=m) (by omega);have J:d.take (m+1)=d:=List.take_of_length_le (by omega);rw [J] at D;rw [a_r d m 0 (by omega)];exact D
  have L:a_e d=a_e (d.take m)*d.getD m 0:=by
   have H:=congrArg a_e e;rw [a_E] at H;rw [H];simp [a_e]
  rw [L,c_I,ih (d.take m) (by simp;omega)]
  congr 1
  refine b_8 m fun k I=>?_;rw [List.getD_eq_getElem?_getD,List.getElem?_take_of_lt I,List.getD_eq_getElem?_getD]
/-- The sides in another order come to as many numbers. -/
theorem d_p {d o:List Nat} (h:d_H d.length o):a_e (b_7 d o)=a_e d:=by
 have D:∀ x,x < d.length->o.getD x 0 < d.length:=fun x I=>by
  rw [a_r o x 0 (by rw [h.1];exact I)];exact h.2.1 _ (List.getElem_mem _)
 rw [l_p d.length (b_7 d o) (by rw [b_E,h.1]),l_p d.length d rfl,<- k_r (fun k=>d.getD k 0) d.length (fun k=>o.getD k 0) D (f_g h)];exact b_8 _ fun k H=>f_f d o k (by rw [h.1];exact H)
theorem f_h {d o:List Nat} (D:goodN d) (h:d_H d.length o):goodN (b_7 d o):=by
 refine ⟨by rw [b_E,h.1];exact D.1,fun x I=>?_,by rw [d_p h];exact D.2.2⟩;obtain ⟨j,H,rfl⟩:=List.mem_map.1 I;have:=h.2.1 j H;exact (D.at j this).1
/-- Where the turned tensor's i-th number stood. -/
def f_i (d o:List Nat) (i:Nat):Nat:=c_v d (unp o (a_S (b_7 d o) i) d.length)
theorem n_y {d o:List Nat} (D:goodN d) (h:d_H d.length o) (i:Nat) (H:i < a_e d):f_i d o i < a_e d:=
 k_9 (k_q h (c_j _ i (f_h D h).2.1 (by rw [d_p h];exact H)))
/-- A fold: each number is added where it is spread from, in order. -/
def c_6 (add:Int->Int->Int) (f:Nat->Nat) (v:Nat->Int) (S:Nat):Nat->List Int
 | 0=>List.replicate S 0
 | k+1=>(c_6 add f v S k).set (f k) (add ((c_6 add f v S k).getD (f k) 0) (v k))
theorem f_j (D:Int->Int->Int) (f:Nat->Nat) (v:Nat->Int) (S:Nat):∀ k,(c_6 D f v S k).length=S
 | 0=>by simp [c_6]
 | k+1=>by rw [c_6,List.length_set,f_j D f v S k]
theorem h_y {d:List Nat} (D:goodN d) (i:Nat) (H:i < a_e d):b_S d d i=i:=by
 unfold b_S;rw [Nat.sub_self,List.drop_zero,e_9 (c_j d i D.2.1 H),d_n d i D.2.1 H]
theorem f_k (d:List Nat):b_W d d/\joinN d d=d:=by
 constructor
 ·intro i _ _;exact .inl rfl
 ·refine e_P (by rw [a_5,Nat.max_self]) fun i D _=>?_;rw [b_q _ _ _ D,Nat.max_self]
theorem g_E {α:Type} (l:List α) (k:Nat) (d:α) (h:l.length<=k):l.getD k d=d:=by
 rw [List.getD_eq_getElem?_getD,List.getElem?_eq_none h];rfl
theorem k_s {α:Type} (a b:List α) (k:Nat) (d:α) (h:k < a.length):(a++b).getD k d=a.getD k d:=by
 rw [List.getD_eq_getElem?_getD,List.getElem?_append_left h,List.getD_eq_getElem?_getD]
theorem k_t {α:Type} (a b:List α) (k:Nat) (d:α) (h:a.length<=k):(a++b).getD k d=b.getD (k - a.length) d:=by
 rw [List.getD_eq_getElem?_getD,List.getElem?_append_right h,List.getD_eq_getElem?_getD]
theorem a_I {α:Type} (f:Nat->α) (n k:Nat) (d:α) (h:k < n):((List.range n).map f).getD k d=f k:=by
 rw [List.getD_eq_getElem?_getD,List.getElem?_map,List.getElem?_range h];rfl
/-- A row in the making, from its beginning on. -/
def b_K (L:List Int) (k:Nat):List Int:=L.take k++List.replicate (L.length - k) 0
theorem a_B (L:List Int) (k:Nat):(b_K L k).length=L.length:=by
 unfold b_K;rw [List.length_append,List.length_take,List.length_replicate];omega
theorem a_Z (L:List Int):b_K L 0=List.replicate L.length 0:=by simp [b_K]
theorem b_e (L:List Int):b_K L L.length=L:=by simp [b_K]
theorem b_r (L:List Int) (k:Nat) (h:k < L.length):(b_K L k).set k (L.getD k 0)=b_K L (k+1):=by
 unfold b_K;refine List.ext_getElem (by simp;omega) fun i D H=>?_;rw [List.getElem_set];by_cases e:k=i
 ·subst e;rw [if_pos rfl,List.getElem_append_left (by simp;omega),List.getElem_take,a_r L k 0 h]
 ·rw [if_neg e];by_cases I:i < k
  ·rw [List.getElem_append_left (by simp;omega),List.getElem_append_left (by simp;omega),List.getElem_take,List.getElem_take]
  ·rw [List.getElem_append_right (by simp;omega),List.getElem_append_right (by simp;omega),List.getElem_replicate,List.getElem_replicate]
/-- The row behind k sides. -/
def h_k (d s:List Nat):Nat->List Nat
 | 0=>[0]
 | k+1=>(h_k d s k).flatMap fun a=>(List.range (d.getD k 0)).map fun n=>a+n*s.getD k 0
theorem g_F (m:Nat) (g:Nat->Nat->Nat):∀ l:List Nat,(l.flatMap fun a=>(List.range m).map (g a)).length=l.length*m
 | []=>by simp
 | a :: l=>by rw [List.flatMap_cons,List.length_append,g_F m g l];simp [Nat.add_mul,Nat.add_comm]
theorem j_k (m:Nat) (H:0 < m) (g:Nat->Nat->Nat):∀ (l:List Nat) (i:Nat),i < l.length*m->(l.flatMap fun a=>(List.range m).map (g a)).getD i 0=g (l.getD (i / m) 0) (i % m)
 | [],i,h=>by simp at h
 | a :: l,i,h=>by
  rw [List.flatMap_cons];by_cases D:i < m
  ·rw [k_s _ _ _ _ (by simp;exact D),a_I _ _ _ _ D,Nat.div_eq_of_lt D,Nat.mod_eq_of_lt D];rfl
  ·rw [k_t _ _ _ _ (by simp;omega)];have L:((List.range m).map (g a)).length=m:=by simp
   rw [L,j_k m H g l (i - m) (by rw [List.length_cons,Nat.add_mul] at h;omega)]
   have I:i / m=(i - m) / m+1:=by
    rw [Nat.div_eq_sub_div H (by omega)]
   have J:i % m=(i - m) % m:=Nat.mod_eq_sub_mod (by omega);rw [I,J];rfl
theorem e_S (d s:List Nat):∀ k,k<=d.length->(h_k d s k).length=a_e (d.take k)
 | 0,_=>by simp [h_k,a_e]
 | k+1,h=>by
  rw [h_k,g_F,e_S d s k (by omega),b_D d k (by omega),a_r d k 0 (by omega)]
theorem l_q {d s:List Nat} (I:∀ x,x∈d->1<=x) (a:Nat) (H:a < a_e d):∀ k,k<=d.length->(h_k d s k).getD (a / a_e (d.drop k)) 0=h_j (a_S d a) s k
 | 0,_=>by
  rw [List.drop_zero,Nat.div_eq_of_lt H];rfl
 | k+1,h=>by
  have M:0 < a_e (d.drop (k+1)):=a_C fun x U=>I x (List.mem_of_mem_drop U)
  have O:0 < d.getD k 0:=by
   rw [a_r d k 0 (by omega)];exact I _ (List.getElem_mem _)
  have J:a / a_e (d.drop (k+1)) < a_e (d.take (k+1)):=by
   refine (Nat.div_lt_iff_lt_mul M).2 ?_;rw [<- a_E,List.take_append_drop];exact H
  have D:=e_S d s k (by omega);rw [h_k,j_k _ O _ _ _ (by rw [D,a_r d k 0 (by omega),<- b_D d k (by omega)];exact J)];have L:=n_p d a k (by omega);have R:=f_7 d a k I H (by omega)
  have hg2:(a_S d a).getD k 0=a / a_e (d.drop (k+1)) % d.getD k 0:=by
   rw [List.getD_eq_getElem?_getD,R,a_r d k 0 (by omega)];rfl
  rw [h_j,<- l_q I a H k (by omega),hg2];rw [a_r d k 0 (by omega)];rw [L]
/-- The whole row. -/
def f_l (d s:List Nat):List Nat:=h_k d s d.length
theorem h_z (d s:List Nat):(f_l d s).length=a_e d:=by
 unfold f_l;rw [e_S d s _ (Nat.le_refl _),List.take_of_length_le (Nat.le_refl _)]
theorem j_l {d s:List Nat} (H:∀ x,x∈d->1<=x) (a:Nat) (D:a < a_e d):(f_l d s).getD a 0=h_j (a_S d a) s d.length:=by
 have:=l_q (s:=s) H a D d.length (Nat.le_refl _);rw [List.drop_of_length_le (Nat.le_refl _)] at this;simp only [a_e,Nat.div_one] at this;exact this
theorem g_b (p s q t:List Nat) (m:Nat) (D:∀ j,j < m->p.getD j 0*s.getD j 0=0):∀ n,(∀ j,j < n->p.getD (m+j) 0*s.getD (m+j) 0=q.getD j 0*t.getD j 0)->h_j p s (m+n)=h_j q t n
 | 0,_=>by
  rw [Nat.add_zero]
  have:∀ k,k<=m->h_j p s k=0:=by
   intro k
   induction k with
   | zero=>intro _;rfl
   | succ k ih=>intro h;rw [h_j,ih (by omega),D k (by omega)]
  exact this m (Nat.le_refl _)
 | n+1,h=>by
  rw [<- Nat.add_assoc,h_j,h_j,g_b p s q t m D n fun j H=>h j (by omega),h n (by omega)]
/-- The steps of a shape that is spread, after k of its sides. -/
def b_Y (d:List Nat) (n:Nat):Nat->List Nat
 | 0=>List.replicate n 0
 | k+1=>if 1 < d.getD k 0 then (b_Y d n k).set (n - d.length+k) ((a_w d).getD k 0) else b_Y d n k
theorem b_9 (d:List Nat) (n:Nat):∀ k,(b_Y d n k).length=n
 | 0=>by simp [b_Y]
 | k+1=>by
  rw [b_Y]
  split
  ·rw [List.length_set,b_9 d n k]
  ·exact b_9 d n k
theorem d_J (d:List Nat) (n:Nat) (h:d.length<=n) (j:Nat) (D:j < n - d.length):∀ k,(b_Y d n k).getD j 0=0
 | 0=>by
  rw [b_Y,a_r _ _ _ (by simp;omega)];simp
 | k+1=>by
  rw [b_Y]
  split
  ·rw [g_C _ _ _ _ (by rw [b_9];omega),if_neg (by omega)];exact d_J d n h j D k
  ·exact d_J d n h j D k
theorem g_G (d:List Nat) (n:Nat) (h:d.length<=n) (i:Nat) (J:i < d.length):∀ k,k<=d.length->(b_Y d n k).getD (n - d.length+i) 0=if i < k/\1 < d.getD i 0 then (a_w d).getD i 0 else 0
 | 0,_=>by
  rw [b_Y,a_r _ _ _ (by simp;omega),if_neg (by omega)];simp
 | k+1,hk=>by
  rw [b_Y]
  split
  ·rename_i I
   rw [g_C _ _ _ _ (by rw [b_9];omega)];by_cases e:k=i
   ·subst e;rw [if_pos rfl,if_pos ⟨by omega,I⟩]
   ·rw [if_neg (by omega),g_G d n h i J k (by omega)];by_cases H:i < k
    ·by_cases D:1 < d.getD i 0
     ·rw [if_pos ⟨H,D⟩,if_pos ⟨by omega,D⟩]
     ·rw [if_neg (fun h=>D h.2),if_neg (fun h=>D h.2)]
    ·rw [if_neg (fun h=>H h.1),if_neg (fun h=>by omega)]
  ·rename_i I
   rw [g_G d n h i J k (by omega)];by_cases D:1 < d.getD i 0
   ·by_cases H:i < k
    ·rw [if_pos ⟨H,D⟩,if_pos ⟨by omega,D⟩]
    ·rw [if_neg (fun h=>H h.1),if_neg (fun h=>by
      have:i=k:=by omega
      subst this;exact I D)]
   ·rw [if_neg (fun h=>D h.2),if_neg (fun h=>D h.2)]
def j_m (d:List Nat) (n:Nat):List Nat:=b_Y d n d.length
theorem e_q {d:List Nat} (h:goodN d) (k:Nat):(a_w d).getD k 0<=4096:=by
 rcases Nat.lt_or_ge k d.length with D|D
 ·rw [List.getD_eq_getElem?_getD,c_3 d k D];exact Nat.le_trans (d_V h.2.1 (k+1)) h.2.2
 ·rw [g_E _ _ _ (by rw [b_R];exact D)];omega
theorem g_H {d:List Nat} (D:goodN d) (n:Nat):∀ k x,x∈b_Y d n k->x<=4096
 | 0,x,hx=>by
  have:=List.eq_of_mem_replicate hx;omega
 | k+1,x,hx=>by
  rw [b_Y] at hx
  split at hx
  ·rcases List.mem_or_eq_of_mem_set hx with h|h
   ·exact g_H D n k x h
   ·rw [h];exact e_q D k
  ·exact g_H D n k x hx
/-- Which number is spread to each place, in order. -/
def b_U (d big:List Nat):List Nat:=f_l big (j_m d big.length)
theorem f_m {d big:List Nat} (O:goodN d) (hb:goodN big) (hf:b_W d big) (D:joinN d big=big) (a:Nat) (M:a < a_e big):(b_U d big).getD a 0=b_S d big a:=by
 have H:=g_z D;unfold b_U;rw [j_l hb.2.1 a M]
 have e:=g_b (a_S big a) (j_m d big.length) (qN d big a) (a_w d) (big.length - d.length) (fun j D=>by unfold j_m;rw [d_J d _ H j D,Nat.mul_zero]) d.length (fun j D=>by
  unfold j_m;rw [g_G d _ H j D _ (Nat.le_refl _)];have I:=p_G (big:=big) H a j D;have L:=O.at j D;rw [a_O] at I;by_cases J:1 < d.getD j 0
  ·rw [if_pos ⟨D,J⟩];rw [if_neg (by omega)] at I;have:(qN d big a).getD j 0=(a_S big a).getD (big.length - d.length+j) 0:=by omega
   rw [this]
  ·rw [if_neg (fun h=>J h.2),Nat.mul_zero];rw [if_pos (by omega)] at I;have:(qN d big a).getD j 0=0:=by omega
   rw [this,Nat.zero_mul])
 rw [show big.length - d.length+d.length=big.length by omega] at e;rw [e,c_4 d _ (r_g d big a H)];rfl
theorem d_K (d big:List Nat):(b_U d big).length=a_e big:=h_z _ _
/-- The sum of m numbers, place by place. -/
def g_I (f:Nat->Nat):Nat->Nat
 | 0=>0
 | m+1=>g_I f m+f m
theorem d_q {f g:Nat->Nat}:∀ m,(∀ k,k < m->f k=g k)->g_I f m=g_I g m
 | 0,_=>rfl
 | m+1,h=>by rw [g_I,g_I,d_q m fun k D=>h k (by omega),h m (by omega)]
theorem j_n (f:Nat->Nat) (t x:Nat):∀ m,t < m->g_I f m+x=g_I (fun k=>if k=t then x else f k) m+f t
 | 0,h=>by omega
 | m+1,h=>by
  rw [g_I,g_I];by_cases e:t=m
  ·subst e;rw [if_pos rfl,d_q (g:=fun k=>if k=t then x else f k) t fun k D=>by rw [if_neg (by omega)]];omega
  ·rw [if_neg (by omega)];have:=j_n f t x m (by omega);omega
theorem l_r (d:Nat->Nat):∀ (m:Nat) (f:Nat->Nat),(∀ k,k < m->f k < m)->(∀ i k,i < m->k < m->f i=f k->i=k)->g_I (fun k=>d (f k)) m=g_I d m:=by
 intro m
 induction m with
 | zero=>intro f _ _;rfl
 | succ m ih=>
  intro f hb J;obtain ⟨t,ht,ft⟩:=g_D (m+1) f hb J m (by omega)
  have I:∀ k,k < m+1->k≠t->f k < m:=fun k L D=>by
   have U:=hb k L;have V:f k≠m:=fun e=>D (J k t L ht (by omega));omega
  by_cases R:t=m
  ·subst R;rw [g_I,g_I,ft,ih f (fun k L=>I k (by omega) (by omega)) fun i k O M e=>J i k (by omega) (by omega) e]
  ·have U:=j_n (fun k=>d (f k)) t (d (f m)) m (by omega);rw [g_I,g_I,U];show g_I (fun k=>if k=t then d (f m) else d (f k)) m+d (f t)=g_I d m+d m;rw [ft]
   congr 1
   have V:=ih (fun k=>if k=t then f m else f k) (fun k L=>by
    show (if k=t then f m else f k) < m;by_cases D:k=t
    ·rw [if_pos D];exact I m (by omega) (by omega)
    ·rw [if_neg D];exact I k (by omega) D) (fun i k O M e=>by
    have e:(if i=t then f m else f i)=(if k=t then f m else f k):=e;by_cases H:i=t
    ·by_cases D:k=t
     ·omega
     ·rw [if_pos H,if_neg D] at e;have:=J m k (by omega) (by omega) e;omega
    ·by_cases D:k=t
     ·rw [if_neg H,if_pos D] at e;have:=J i m (by omega) (by omega) e;omega
     ·rw [if_neg H,if_neg D] at e;exact J i k (by omega) (by omega) e)
   rw [<- V]
   exact d_q m fun k L=>by
    by_cases D:k=t
    ·rw [if_pos D,if_pos D]
    ·rw [if_neg D,if_neg D]
theorem g_J (p s:List Nat):∀ m,h_j p s m=g_I (fun k=>p.getD k 0*s.getD k 0) m
 | 0=>rfl
 | m+1=>by rw [h_j,g_I,g_J p s m]
/-- The steps along the turned sides. -/
def f_T (d o:List Nat):List Nat:=o.map fun j=>(a_w d).getD j 0
theorem f_n (d o:List Nat):(f_T d o).length=o.length:=by simp [f_T]
theorem h_A (d o:List Nat) (k:Nat) (h:k < o.length):(f_T d o).getD k 0=(a_w d).getD (o.getD k 0) 0:=by
 rw [a_r _ k 0 (by rw [f_n];exact h),a_r o k 0 h];simp [f_T]
theorem n_z {d:List Nat} (D:goodN d) (o:List Nat):∀ x,x∈f_T d o->x<=4096:=by
 intro x H;obtain ⟨j,_,rfl⟩:=List.mem_map.1 H;exact e_q D j
theorem l_s {d o:List Nat} (M:goodN d) (h:d_H d.length o) (a:Nat) (J:a < a_e d):(f_l (b_7 d o) (f_T d o)).getD a 0=f_i d o a:=by
 have I:=f_h M h;have L:(b_7 d o).length=d.length:=by rw [b_E,h.1]
 rw [j_l I.2.1 a (by rw [d_p h];exact J),L];unfold f_i;rw [<- c_4 d (unp o (a_S (b_7 d o) a) d.length) (l_o _ _ _),g_J,g_J]
 have D:∀ x,x < d.length->o.getD x 0 < d.length:=fun x O=>by
  rw [a_r o x 0 (by rw [h.1];exact O)];exact h.2.1 _ (List.getElem_mem _)
 rw [<- l_r (fun k=>(unp o (a_S (b_7 d o) a) d.length).getD k 0*(a_w d).getD k 0) d.length (fun k=>o.getD k 0) D (f_g h)]
 exact d_q _ fun k H=>by
  show _=(unp o (a_S (b_7 d o) a) d.length).getD (o.getD k 0) 0*(a_w d).getD (o.getD k 0) 0;rw [o_2 h _ k H,h_A d o k (by rw [h.1];exact H)]
end Go.Proofs.YtjlofobnmjompaaGreatDoor.Wd
