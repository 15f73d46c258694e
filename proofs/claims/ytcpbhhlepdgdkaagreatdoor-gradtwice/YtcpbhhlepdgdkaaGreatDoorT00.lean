/- A slice of integers that came in: what a -/
import Derived.WalkKit
import Derived.ProofKit
import Derived.OpenShut
import Derived.ChangeSlices
import Derived.Carry
import Derived.WalkSpells
import Derived.Handy
import Derived.Deep.AppendSrc
import Derived.OwnWalk
import Derived.Laws.AppendOwnNone
import Derived.Laws.OwnMore
import Derived.OneCell
import Derived.RowKit
import Derived.Test.YtcpbhhlepdgdkaaGreatDoorProg
import Derived.Deep.LoopGhost
import Derived.Deep.Draws
import Derived.BigQuiet
import Derived.Deep.QuietTactic
import Derived.WalkSmall
import Derived.Below
import Derived.Laws.Bits64b
import Derived.Laws.BitsLemmas
set_option linter.unusedVariables false
set_option linter.unusedSimpArgs false
set_option maxHeartbeats 16000000
set_option maxRecDepth 16000
namespace Go.Proofs.YtcpbhhlepdgdkaaGreatDoor.Wd
open Go.ChangeShapes Go.WideShapes Go.ChangeAt Go.RowKit
/-- The slice's elements are the numbers z 0, z 1 .. , each fitting its kind; where it has one, they lie one behind the other in a block. -/
def Row (k:IntKind) (W:World) (p:Option Addr) (n c:Nat) (z:Nat->Int):Prop:=
 n<=c/\c<=9223372036854775807/\(∀ i,i < n->(Lit.int k (z i)).wf=true)/\(0 < n->∃ b o,p=some ⟨b,o,none⟩/\b < W.heap.size/\∀ i,i < n->W.cell? ⟨b,o+i,none⟩=some (.int k (z i)))
theorem c_4 {W:World} {a:Addr} {v:Value} (h:W.cell? a=some v):a=⟨a.block,a.off,none⟩:=by
 unfold World.cell? at h
 split at h
 ·obtain ⟨b,o,s⟩:=a;cases s with
  | none=>rfl
  | some x=>simp at h
 ·cases h
theorem a_g {W:World} {b o:Nat} {v:Value} (h:W.cell? ⟨b,o,none⟩=some v):b < W.heap.size:=by
 by_cases c:b < W.heap.size
 ·exact c
 ·exfalso;unfold World.cell? at h;rw [show W.heap[b]?=none from by simp;omega] at h;simp at h
theorem n_E {H:Type} {enc:TypeId×Value->H} {P:Program} {W:World} {t e:TypeId} {k:IntKind} {a:Option Addr} {n c:Nat} {d:DataW H} {ps:List MemPlace} (O:P.underlying t=some (.slice e)) (he:P.underlying e=some (.int k)) (hc:P.cellsOf e=1)
  (h:DataW.Trod enc P W 0 (fun _=>true) true t (.slice a n c) d ps):∃ z,Row k W a n c z:=by
 obtain ⟨fuel,hf⟩:=h;rcases open_ints O he hc hf with ⟨D,_⟩|⟨x,l,c',zs,D,_,hl,hm,V,_,E,L⟩
 ·simp [Value.cells] at D;obtain ⟨rfl,rfl,rfl⟩:=D;exact ⟨fun _=>0,by omega,by omega,fun i M=>by omega,fun h=>by omega⟩
 ·simp [Value.cells] at D;obtain ⟨rfl,rfl,rfl⟩:=D;have U:zs.length=c:=by simpa using V
  refine ⟨fun i=>zs.getD i 0,hl,by unfold maxLen at hm;omega,fun i M=>L _ ?_,fun h=>?_⟩
  ·show zs.getD i 0∈zs;rw [List.getD_eq_getElem?_getD,List.getElem?_eq_getElem (by omega)];exact List.getElem_mem _
  ·have J:=E 0 (by omega);have R:x.add 0=x:=by simp [Addr.add]
   rw [R] at J;have I:=c_4 J;refine ⟨x.block,x.off,by rw [<- I],?_,fun i M=>?_⟩
   ·rw [I] at J;exact a_g J
   ·have:=E i (by omega);rw [<- this]
    congr 1
    unfold Addr.add
    split
    ·rename_i h;subst h;rw [Nat.add_zero];exact I.symm
    ·rw [I]
/-- The same, and a nil slice has no room. -/
def RowN (k:IntKind) (W:World) (p:Option Addr) (n c:Nat) (z:Nat->Int):Prop:=Row k W p n c z/\(p=none->n=0/\c=0)
theorem open_rowN {H:Type} {enc:TypeId×Value->H} {P:Program} {W:World} {t e:TypeId} {k:IntKind} {a:Option Addr} {n c:Nat} {d:DataW H} {ps:List MemPlace} (E:P.underlying t=some (.slice e)) (he:P.underlying e=some (.int k)) (I:P.cellsOf e=1)
  (h:DataW.Trod enc P W 0 (fun _=>true) true t (.slice a n c) d ps):∃ z,RowN k W a n c z:=by
 obtain ⟨z,L⟩:=n_E E he I h;refine ⟨z,L,fun J=>?_⟩;subst J;obtain ⟨fuel,hf⟩:=h;rcases open_ints E he I hf with ⟨D,_⟩|⟨x,l,M,zs,D,_⟩
 ·simp [Value.cells] at D;exact D
 ·simp [Value.cells] at D
end Go.Proofs.YtcpbhhlepdgdkaaGreatDoor.Wd
namespace Go.Proofs.YtcpbhhlepdgdkaaGreatDoor.Wd
open Go.RowKit
theorem c_x {W:World} {a:Addr} {v:Value} (h:W.cell? a=some v):a.block < W.heap.size:=by
 by_cases c:a.block < W.heap.size
 ·exact c
 ·exfalso;unfold World.cell? at h;rw [show W.heap[a.block]?=none from by simp;omega] at h;simp at h
theorem a_t (b o j:Nat):(⟨b,o,none⟩:Addr).add j=⟨b,o+j,none⟩:=by
 unfold Addr.add
 split
 ·rename_i h;rw [h,Nat.add_zero]
 ·rfl
theorem a_h {W W':World} {a:Addr} {v:Value} (hb:Below W.heap.size W W') (h:W.cell? a=some v):W'.cell? a=some v:=by
 rw [hb.cell (p:=a) (c_x h)];exact h
def a_4 (k:IntKind) (l:List Int):List Value:=l.map (Value.int k)
theorem g_z (k:IntKind) (l:List Int):∀ u∈a_4 k l,u.oneCell'=true:=by
 intro u D;obtain ⟨x,_,rfl⟩:=List.mem_map.1 D;rfl
theorem n_F (k:IntKind) (l:List Int) (j:Nat) (x:Int):(a_4 k l).set j (.int k x)=a_4 k (l.set j x):=by
 unfold a_4;rw [List.map_set]
theorem g_A (k:IntKind) (l:List Int) (j:Nat) (h:j < l.length):(a_4 k l)[j]?=some (.int k (l.getD j 0)):=by
 unfold a_4;rw [List.getElem?_map,List.getElem?_eq_getElem h,List.getD_eq_getElem?_getD,List.getElem?_eq_getElem h];rfl
/-- The slice's numbers are these. -/
def Nums (k:IntKind) (W:World) (v:Value) (l:List Int):Prop:=
 (v = .slice none 0 0/\l = [])∨∃ ad c,v = .slice (some ad) l.length c/\∀ j u,(a_4 k l)[j]?=some u->W.cell? (ad.add j)=some u
theorem Nums.up {k:IntKind} {W W':World} {v:Value} {l:List Int} (h:Nums k W v l) (hb:Below W.heap.size W W'):Nums k W' v l:=by
 rcases h with h|⟨E,c,rfl,h⟩
 ·exact .inl h
 ·exact .inr ⟨E,c,rfl,fun j u D=>a_h hb (h j u D)⟩
theorem Nums.view {k:IntKind} {W:World} {v:Value} {l:List Int} (h:Nums k W v l):∃ p c,v = .slice p l.length c/\∀ j,j < l.length->∃ q o,p=some ⟨q,o,none⟩/\W.cell? ⟨q,o+j,none⟩=some (.int k (l.getD j 0)):=by
 rcases h with ⟨rfl,rfl⟩|⟨H,c,rfl,h⟩
 ·exact ⟨none,0,rfl,fun j E=>by simp at E⟩
 ·refine ⟨_,c,rfl,fun j E=>?_⟩;have I:=h 0 _ (g_A k l 0 (by omega));have D:=h j _ (g_A k l j E);have:=c_4 (show W.cell? H=_ from I);obtain ⟨q,o,J⟩:=H;cases this;rw [a_t] at D;exact ⟨q,o,rfl,D⟩
/-- A slice that came in, as a list. -/
def l_i (n:Nat) (z:Nat->Int):List Int:=(List.range n).map z
theorem j_n (n:Nat) (z:Nat->Int):(l_i n z).length=n:=by simp [l_i]
theorem n_G (n:Nat) (z:Nat->Int) (j:Nat) (h:j < n):(l_i n z)[j]?=some (z j):=by simp [l_i,h]
theorem RowN.wf {k:IntKind} {W:World} {p:Option Addr} {n c:Nat} {z:Nat->Int} (h:RowN k W p n c z):∀ y,y∈l_i n z->(Lit.int k y).wf=true:=by
 intro y D;obtain ⟨i,E,rfl⟩:=List.mem_map.1 D;exact h.1.2.2.1 i (List.mem_range.1 E)
theorem RowN.nums {k:IntKind} {W:World} {p:Option Addr} {n c:Nat} {z:Nat->Int} (h:RowN k W p n c z):Nums k W (.slice p n c) (l_i n z):=by
 cases p with
 | none=>
  obtain ⟨rfl,rfl⟩:=h.2 rfl;exact .inl ⟨rfl,rfl⟩
 | some ad=>
  refine .inr ⟨ad,c,by rw [j_n],fun j u H=>?_⟩;unfold a_4 at H;rw [List.getElem?_map] at H;obtain ⟨x,E,rfl⟩:=Option.map_eq_some_iff.1 H
  have I:j < n:=by
   rcases Nat.lt_or_ge j n with h|h
   ·exact h
   ·rw [List.getElem?_eq_none (by rw [j_n];exact h)] at E;cases E
  rw [n_G n z j I] at E;cases E;obtain ⟨b,o,e,_,D⟩:=h.1.2.2.2 (by omega);cases e;rw [a_t];exact D j I
/-- A slice of the call's own holds these numbers. -/
def OwnK (k:IntKind) (e:TypeId) (W:World) (B:Nat) (v:Value) (l:List Int):Prop:=W.ownsRow B e 1 v l.length (a_4 k l)
theorem OwnK.nums {k:IntKind} {e:TypeId} {W:World} {B:Nat} {v:Value} {l:List Int} (h:OwnK k e W B v l):Nums k W v l:=by
 rcases h.2 with ⟨I,H⟩|⟨g,D,E,rfl,_⟩
 ·exact .inl ⟨I,by simpa using H⟩
 ·exact .inr ⟨⟨g,0,none⟩,D,rfl,World.ownsRow.cells h rfl⟩
theorem OwnK.low {k:IntKind} {e:TypeId} {W:World} {B H:Nat} {v:Value} {l:List Int} (h:OwnK k e W B v l) (J:H<=B):OwnK k e W H v l:=by
 refine ⟨h.1,?_⟩;rcases h.2 with h|⟨g,D,E,M,L,I⟩
 ·exact .inl h
 ·exact .inr ⟨g,D,E,M,Nat.le_trans J L,I⟩
theorem OwnK.block {k:IntKind} {e:TypeId} {W:World} {B:Nat} {v:Value} {l:List Int} (h:OwnK k e W B v l):∀ j,v.ownBlock=some j->B<=j:=by
 intro j D;rcases h.2 with ⟨rfl,_⟩|⟨g,E,H,rfl,I,_⟩
 ·cases D
 ·cases D;exact I
theorem OwnK.nil (k:IntKind) (e:TypeId) (W:World) (B:Nat):OwnK k e W B (.slice none 0 0) []:=⟨by simp [a_4],.inl ⟨rfl,rfl⟩⟩
/-- Where it is not empty, it lies in a block of its own. -/
theorem OwnK.at {k:IntKind} {e:TypeId} {W:World} {B:Nat} {v:Value} {l:List Int} (h:OwnK k e W B v l) (J:0 < l.length):∃ g c,v = .slice (some ⟨g,0,none⟩) l.length c/\B<=g:=by
 rcases h.2 with ⟨_,I⟩|⟨g,D,E,rfl,H,_⟩
 ·omega
 ·exact ⟨g,D,rfl,H⟩
/-- A cell of it is read, and stored into. -/
theorem OwnK.cell {k:IntKind} {e:TypeId} {W:World} {B g n c:Nat} {l:List Int} (h:OwnK k e W B (.slice (some ⟨g,0,none⟩) n c) l) (E:l.length=n) (j:Nat) (D:j < n):W.cell? ⟨g,j,none⟩=some (.int k (l.getD j 0))/\W.frozen? ⟨g,j,none⟩=false:=by
 subst E;exact ⟨by rw [World.ownsRow.cellAt h j (by omega),g_A k l j D],World.ownsRow.frozenAt h j⟩
theorem OwnK.store {k:IntKind} {e:TypeId} {W:World} {B g n c:Nat} {l:List Int} (h:OwnK k e W B (.slice (some ⟨g,0,none⟩) n c) l) (D:l.length=n) (j:Nat) (x:Int):OwnK k e (W.setCell ⟨g,j,none⟩ (.int k x)) B (.slice (some ⟨g,0,none⟩) n c) (l.set j x):=by
 subst D;have:=(World.ownsRow.stored h j (.int k x)).1;unfold OwnK;rw [<- n_F,List.length_set];exact this
/-- The facts of a type of slices of integers. -/
structure NumT (P:Program) (t e:TypeId) (k:IntKind) (b:Nat):Prop where
 ht:P.underlying t=some (.slice e)
 hi:(P.info? e).map (fun i=>(i.zero,i.size,i.bytes))=some (some (.int k 0),1,b)
theorem g_B {P:Program} {t e:TypeId} {k:IntKind} {b:Nat} (T:NumT P t e k b):∃ D,P.info? e=some D/\D.zero=some (.int k 0)/\D.size=1/\D.bytes=b:=by
 have:=T.hi;cases h:P.info? e with
 | none=>rw [h] at this;cases this
 | some i=>
  rw [h] at this;simp only [Option.map_some,Option.some.injEq,Prod.mk.injEq] at this;exact ⟨i,rfl,this.1,this.2.1,this.2.2⟩
/-- append of numbers, whatever they are, behind numbers of the call's own. -/
theorem a_E {P:Program} {t e:TypeId} {k:IntKind} {b:Nat} (T:NumT P t e k b) (aa:b<=8) {ops:Array Oper} {rest:List Oper} {o:Oper} {a:Act} {Q:Exit->Act->World->Prop} {w:World} (J:o.guard=none) (s x:Operand)
  (ho:o.op = .call { callee:=.builtin .append,args:=#[s,x],argTypes:=#[t,t] }) (B:Nat) (I:Value) (E:List Int) (hs:a.eval s=I) (D:OwnK k e w B I E)
  (v:Value) (l:List Int) (hx:a.eval x=v) (hb:Nums k w v l) (H:E.length+l.length<=1073741824) (hB:B<=w.heap.size) (w0:World) (L:Below B w0 w)
  (h:∀ O M,Hid (OwnK k e M B O (E++l))->Below B w0 M->wpList P ops Q rest (a.put o.dst O) M):wpList P ops Q (o :: rest) a w:=by
 obtain ⟨i0,hi,U,V,R⟩:=g_B T;rcases hb with ⟨rfl,rfl⟩|⟨ad,c,rfl,hc⟩
 ·refine wpList_append_own_none J s x t ho B e i0 1 T.ht hi I E.length _ hs D hx ?_;exact h I w (show OwnK _ _ _ _ _ _ by rw [List.append_nil];exact D) L
 ·have hm:(E.length+l.length)*b<=1073741824*8:=Nat.mul_le_mul H aa;refine wpList_append_own _ J s x t ho B e i0 (.int k 0) 1 b T.ht hi U V R rfl (by decide) I E.length _ hs D ad l.length c (a_4 k l) hx (by simp [a_4]) hc (g_z k l) (by unfold maxLen;omega) (by omega) hB ?_;intro O M h1 h2 h3;refine h O M ?_ (Below.grown L h2 hB D.block);show OwnK _ _ _ _ _ _;unfold OwnK a_4 at *;simpa using h1
/-- make: as many noughts. -/
theorem a_y {P:Program} {t e:TypeId} {k:IntKind} {b:Nat} (T:NumT P t e k b) (R:b<=8) (w:World) {ops:Array Oper} {rest:List Oper} {o:Oper} {a:Act} {Q:Exit->Act->World->Prop}
  (hg:o.guard=none) (l c:Operand) (H:o.op=Op.makeSlice t l c) (kl U:IntKind) (L C:Int) (n:Nat) (hl:a.eval l = .int kl L) (hc:a.eval c = .int U C) (hL:L=(n:Int)) (hC:C=(n:Int)) (hn:n<=1073741824)
  (B:Nat) (w0:World) (hB:B<=w.heap.size) (I:Below B w0 w)
  (hK:∀ D,Hid (OwnK k e D w.heap.size (.slice (some ⟨w.heap.size,0,none⟩) n n) (List.replicate n 0))->Below w.heap.size w D->Below B w0 D->wpList P ops Q rest (a.put o.dst (.slice (some ⟨w.heap.size,0,none⟩) n n)) D):
  wpList P ops Q (o :: rest) a w:=by
 obtain ⟨i0,hi,M,O,J⟩:=g_B T;have hm:b*n<=8*1073741824:=Nat.mul_le_mul R hn;refine wpList_make_full w hg l c t H w.heap.size e i0 (.int k 0) 1 T.ht hi M O kl U L C n hl hc hL hC (by rw [J];omega) (by unfold maxLen;omega) (Nat.le_refl _) ?_;intro D V h2;have E:Below w.heap.size w D:=Below.grown (Below.refl _ _) h2 (Nat.le_refl _) (fun j hj=>by cases hj);refine hK D ?_ E (I.trans (E.mono hB));show OwnK _ _ _ _ _ _;unfold OwnK a_4;rw [List.length_replicate,List.map_replicate]
 have e1:(madeCells (Value.int k 0).cells (n*1)).toList=List.replicate n (Value.int k 0):=by
  rw [Nat.mul_one];exact toList_madeCells_one _ _
 rw [e1] at V;exact V
/-- A literal's row. -/
theorem a_5 {k:IntKind} {e:TypeId} (W:World) (l:List Int) (n:Nat) (E:Nat×Nat) (h:l.length=n):Nums k (W.alloc (.cells (a_4 k l).toArray e E)) (.slice (some ⟨W.heap.size,0,none⟩) n n) l:=.inr ⟨_,n,by rw [h],by
 intro j u D;rw [a_t,Nat.zero_add];unfold World.cell? World.alloc;simp only [Array.getElem?_push_size];simpa using D⟩
theorem c_b {k:IntKind} {e:TypeId} (W:World) (l:List Int) (n:Nat) (h:l.length=n) (D:n<=1073741824):OwnK k e (W.alloc (.cells (a_4 k l).toArray e)) W.heap.size (.slice (some ⟨W.heap.size,0,none⟩) n n) l:=by
 subst h;refine ⟨by simp [a_4],.inr ⟨W.heap.size,l.length,(a_4 k l).toArray,rfl,Nat.le_refl _,?_,Nat.le_refl _,by unfold maxLen;omega,by simp [a_4],by rw [Nat.mul_one,List.take_of_length_le (by simp [a_4])]⟩⟩;show (W.heap.push _)[W.heap.size]?=_;simp
theorem OwnK.up {k:IntKind} {e:TypeId} {W W':World} {B:Nat} {v:Value} {l:List Int} (h:OwnK k e W B v l) (hb:Below W.heap.size W W'):OwnK k e W' B v l:=by
 refine ⟨h.1,?_⟩;rcases h.2 with h|⟨g,D,E,L,J,H,I⟩
 ·exact .inl h
 ·refine .inr ⟨g,D,E,L,J,?_,I⟩
  have M:g < W.heap.size:=by
   rcases Nat.lt_or_ge g W.heap.size with h|h
   ·exact h
   ·rw [Array.getElem?_eq_none h] at H;cases H
  rw [hb.block g M];exact H
structure Stay (g:Nat) (W W':World):Prop where
 size:W.heap.size<=W'.heap.size
 block:∀ b,b≠g->b < W.heap.size->W'.heap[b]?=W.heap[b]?
theorem Stay.refl (g:Nat) (W:World):Stay g W W:=⟨Nat.le_refl _,fun _ _ _=>rfl⟩
theorem Stay.trans {g:Nat} {a b c:World} (h:Stay g a b) (D:Stay g b c):Stay g a c:=
 ⟨Nat.le_trans h.size D.size,fun k E H=>(D.block k E (Nat.lt_of_lt_of_le H h.size)).trans (h.block k E H)⟩
theorem Stay.of {g:Nat} {a b:World} (h:Below a.heap.size a b):Stay g a b:=⟨h.size,fun k _ D=>h.block k D⟩
theorem Stay.up {g:Nat} {a b c:World} (h:Stay g a b) (D:Below b.heap.size b c):Stay g a c:=h.trans (Stay.of D)
theorem Stay.set {g:Nat} {a b:World} (h:Stay g a b) (o:Nat) (x:Value):Stay g a (b.setCell ⟨g,o,none⟩ x):=
 h.trans ⟨by simp,fun k D _=>Below.heap_setCell _ _ _ _ D⟩
theorem Stay.cell {g:Nat} {W W':World} {a:Addr} {v:Value} (h:Stay g W W') (D:W.cell? a=some v) (E:a.block≠g):W'.cell? a=some v:=by
 have hb:=c_x D;unfold World.cell? at D ⊢;rw [h.block _ E hb];exact D
theorem Stay.frozen {g:Nat} {W W':World} {b o:Nat} (h:Stay g W W') (hb:b < W.heap.size) (D:b≠g):W'.frozen? ⟨b,o,none⟩=W.frozen? ⟨b,o,none⟩:=by
 unfold World.frozen?;rw [h.block _ D hb]
/-- A slice whose cells lie in blocks but g. -/
def Off (g:Nat) (v:Value):Prop:=∀ ad n c,v = .slice (some ad) n c->ad.block≠g
theorem Nums.stay {k:IntKind} {g:Nat} {W W':World} {v:Value} {l:List Int} (h:Nums k W v l) (I:Stay g W W') (E:Off g v):Nums k W' v l:=by
 rcases h with h|⟨D,c,rfl,h⟩
 ·exact .inl h
 ·refine .inr ⟨D,c,rfl,fun j u H=>I.cell (h j u H) ?_⟩;have:=E D _ _ rfl;unfold Addr.add
  split <;> exact this
/-- What was there before the block g was made. -/
theorem Nums.off {k:IntKind} {W:World} {v:Value} {l:List Int} (h:Nums k W v l) (I:l≠[]) {g:Nat} (J:W.heap.size<=g):Off g v:=by
 intro E n c e;rcases h with ⟨rfl,_⟩|⟨H,L,rfl,h⟩
 ·cases e
 ·cases e;obtain ⟨x,D,rfl⟩:∃ x D,l=x :: D:=by cases l with|nil=>exact absurd rfl I|cons x D=>exact ⟨x,D,rfl⟩
  have:=h 0 (.int k x) rfl;have:=c_x this;intro e;rw [show (E.add 0)=E by unfold Addr.add;simp] at this;omega
theorem OwnK.off {k:IntKind} {e:TypeId} {W:World} {B g:Nat} {v:Value} {l:List Int} (h:OwnK k e W B v l) (M:g < B):Off g v:=by
 intro J n c D;rcases h.2 with ⟨E,_⟩|⟨q,H,I,E,L,_⟩
 ·rw [E] at D;cases D
 ·rw [E] at D;cases D;show q≠g;omega
theorem OwnK.stay {k:IntKind} {e:TypeId} {W W':World} {B g:Nat} {v:Value} {l:List Int} (h:OwnK k e W B v l) (M:Stay g W W') (R:Off g v):OwnK k e W' B v l:=by
 refine ⟨h.1,?_⟩;rcases h.2 with h|⟨q,D,E,I,L,H,J⟩
 ·exact .inl h
 ·refine .inr ⟨q,D,E,I,L,?_,J⟩
  have O:q < W.heap.size:=by
   rcases Nat.lt_or_ge q W.heap.size with h|h
   ·exact h
   ·rw [Array.getElem?_eq_none h] at H;cases H
  rw [M.block q (R _ _ _ I) O];exact H
theorem OwnK.size {k:IntKind} {e:TypeId} {W:World} {B g n c:Nat} {l:List Int} (h:OwnK k e W B (.slice (some ⟨g,0,none⟩) n c) l):g < W.heap.size:=by
 rcases h.2 with ⟨D,_⟩|⟨q,H,I,D,L,E,J⟩
 ·cases D
 ·cases D;rcases Nat.lt_or_ge g W.heap.size with h|h
  ·exact h
  ·rw [Array.getElem?_eq_none h] at E;cases E
def a_e:List Nat->Nat
 | []=>1
 | d :: ds=>d*a_e ds
theorem a_D:∀ a b:List Nat,a_e (a++b)=a_e a*a_e b
 | [],b=>by simp [a_e]
 | d :: a,b=>by simp [a_e,a_D a b,Nat.mul_assoc]
theorem a_A:∀ {d:List Nat},(∀ x,x∈d->1<=x)->1<=a_e d
 | [],_=>Nat.le_refl _
 | x :: d,h=>by
  have E:=h x List.mem_cons_self;have D:=a_A (d:=d) fun y H=>h y (List.mem_cons_of_mem _ H);exact Nat.mul_pos E D
/-- A shape's numbers. -/
abbrev goodN (d:List Nat):Prop:=d.length<=4/\(∀ x,x∈d->1<=x)/\a_e d<=4096
theorem e_K:∀ {d:List Nat},(∀ x,x∈d->1<=x)->∀ x,x∈d->x<=a_e d
 | y :: d,h,x,E=>by
  have H:=a_A (d:=d) fun y D=>h y (List.mem_cons_of_mem _ D);have D:=h y List.mem_cons_self;rcases List.mem_cons.1 E with rfl|E
  ·exact Nat.le_mul_of_pos_right _ H
  ·exact Nat.le_trans (e_K (fun y D=>h y (List.mem_cons_of_mem _ D)) x E) (Nat.le_mul_of_pos_left _ D)
theorem goodN.le {d:List Nat} (h:goodN d):∀ x,x∈d->x<=4096:=fun x D=>Nat.le_trans (e_K h.2.1 x D) h.2.2
theorem d_0 {d:List Nat} (h:∀ x,x∈d->1<=x) (k:Nat):a_e (d.take k)<=a_e d:=by
 have e:a_e d=a_e (d.take k)*a_e (d.drop k):=by rw [<- a_D,List.take_append_drop]
 have:=a_A (d:=d.drop k) fun x D=>h x (List.mem_of_mem_drop D);rw [e];exact Nat.le_mul_of_pos_right _ this
theorem d_1 {d:List Nat} (h:∀ x,x∈d->1<=x) (k:Nat):a_e (d.drop k)<=a_e d:=by
 have e:a_e d=a_e (d.take k)*a_e (d.drop k):=by rw [<- a_D,List.take_append_drop]
 have:=a_A (d:=d.take k) fun x D=>h x (List.mem_of_mem_take D);rw [e];exact Nat.le_mul_of_pos_left _ this
theorem b_D (d:List Nat) (k:Nat) (h:k < d.length):a_e (d.take (k+1))=a_e (d.take k)*d[k]:=by
 rw [List.take_succ_eq_append_getElem h,a_D];simp [a_e]
theorem c_c (d:List Nat) (k:Nat) (h:k < d.length):a_e (d.drop k)=d[k]*a_e (d.drop (k+1)):=by
 rw [List.drop_eq_getElem_cons h];rfl
/-- How far it is from one to the next along each. -/
def a_x:List Nat->List Nat
 | []=>[]
 | _ :: ds=>a_e ds :: a_x ds
theorem b_T:∀ d,(a_x d).length=d.length
 | []=>rfl
 | _ :: ds=>by simp [a_x,b_T ds]
theorem c_5:∀ (d:List Nat) (k:Nat),k < d.length->(a_x d)[k]?=some (a_e (d.drop (k+1)))
 | [],k,h=>by simp at h
 | _ :: ds,0,h=>by simp [a_x]
 | _ :: ds,k+1,h=>by
  simp only [a_x,List.getElem?_cons_succ,List.drop_succ_cons];exact c_5 ds k (by simpa using h)
/-- The number of a place, and back. -/
def c_y:List Nat->List Nat->Nat
 | _ :: ds,p :: ps=>p*a_e ds+c_y ds ps
 | _,_=>0
def a_S:List Nat->Nat->List Nat
 | [],_=>[]
 | _ :: ds,at_=>at_ / a_e ds :: a_S ds (at_ % a_e ds)
theorem c_z:∀ d a,(a_S d a).length=d.length
 | [],_=>rfl
 | _ :: ds,a=>by simp [a_S,c_z ds]
theorem d_q:∀ (d:List Nat) (a:Nat),(∀ x,x∈d->1<=x)->a < a_e d->c_y d (a_S d a)=a
 | [],a,_,h=>by simp [a_e] at h;simp [c_y,h]
 | x :: ds,a,h,ha=>by
  have E:=a_A (d:=ds) fun y D=>h y (List.mem_cons_of_mem _ D);rw [a_S,c_y,d_q ds _ (fun y D=>h y (List.mem_cons_of_mem _ D)) (Nat.mod_lt _ E),Nat.mul_comm];exact Nat.div_add_mod a (a_e ds)
/-- Each number of a place is below its side. -/
def d_2:List Nat->List Nat->Prop
 | d :: ds,p :: ps=>p < d/\d_2 ds ps
 | [],[]=>True
 | _,_=>False
theorem c_n:∀ (d:List Nat) (a:Nat),(∀ x,x∈d->1<=x)->a < a_e d->d_2 d (a_S d a)
 | [],_,_,_=>trivial
 | x :: ds,a,h,ha=>by
  have E:=a_A (d:=ds) fun y D=>h y (List.mem_cons_of_mem _ D);refine ⟨Nat.div_lt_of_lt_mul (by rw [Nat.mul_comm];exact ha),c_n ds _ (fun y D=>h y (List.mem_cons_of_mem _ D)) (Nat.mod_lt _ E)⟩
theorem g_a:∀ {d p:List Nat},d_2 d p->p.length=d.length
 | [],[],_=>rfl
 | _ :: ds,_ :: ps,h=>by simp [g_a h.2]
 | [],_ :: _,h=>h.elim
 | _ :: _,[],h=>h.elim
theorem g_b:∀ {d p:List Nat},d_2 d p->∀ (k:Nat) (x y:Nat),d[k]?=some x->p[k]?=some y->y < x
 | _ :: _,_ :: _,h,0,x,y,hx,hy=>by
  simp at hx hy;subst hx hy;exact h.1
 | _ :: ds,_ :: ps,h,k+1,x,y,hx,hy=>g_b h.2 k x y (by simpa using hx) (by simpa using hy)
 | [],[],_,k,x,y,hx,_=>by simp at hx
 | [],_ :: _,h,_,_,_,_,_=>h.elim
 | _ :: _,[],h,_,_,_,_,_=>h.elim
theorem h_y:∀ {d p:List Nat},p.length=d.length->(∀ (k:Nat) (x y:Nat),d[k]?=some x->p[k]?=some y->y < x)->d_2 d p
 | [],[],_,_=>trivial
 | d :: ds,p :: ps,hl,h=>⟨h 0 d p rfl rfl,h_y (by simpa using hl) fun k x y E D=>h (k+1) x y (by simpa using E) (by simpa using D)⟩
 | [],_ :: _,hl,_=>by simp at hl
 | _ :: _,[],hl,_=>by simp at hl
theorem l_j:∀ {d p:List Nat},d_2 d p->c_y d p < a_e d
 | [],[],_=>by simp [c_y,a_e]
 | d :: ds,p :: ps,h=>by
  have E:=l_j h.2;have D:(p+1)*a_e ds<=d*a_e ds:=Nat.mul_le_mul_right _ h.1;rw [Nat.add_mul] at D;simp only [c_y,a_e];omega
 | [],_ :: _,h=>h.elim
 | _ :: _,[],h=>h.elim
/-- The same, of the first k sides. -/
def r_u (d p:List Nat):Nat->Nat
 | 0=>0
 | k+1=>r_u d p k*d.getD k 0+p.getD k 0
/-- A place's k-th number, by the sides behind it. -/
theorem g_c:∀ (d:List Nat) (a k:Nat),(∀ x,x∈d->1<=x)->a < a_e d->(I:k < d.length)->(a_S d a)[k]?=some (a / a_e (d.drop (k+1)) % d[k])
 | x :: ds,a,0,h,ha,I=>by
  simp only [a_S,List.getElem?_cons_zero,List.drop_succ_cons,List.drop_zero,List.getElem_cons_zero];rw [Nat.mod_eq_of_lt (Nat.div_lt_of_lt_mul (by rw [Nat.mul_comm];exact ha))]
 | x :: ds,a,k+1,h,ha,I=>by
  have E:∀ y,y∈ds->1<=y:=fun y H=>h y (List.mem_cons_of_mem _ H);have J:=a_A E;have D:k < ds.length:=by simpa using I
  simp only [a_S,List.getElem?_cons_succ,List.drop_succ_cons,List.getElem_cons_succ];rw [g_c ds (a % a_e ds) k E (Nat.mod_lt _ J) D]
  congr 1
  have e:a_e ds=a_e (ds.take k)*(ds[k]*a_e (ds.drop (k+1))):=by rw [<- c_c ds k D,<- a_D,List.take_append_drop]
  generalize L:a_e (ds.drop (k+1))=P at *;have O:1<=P:=by rw [<- L];exact a_A fun y H=>E y (List.mem_of_mem_drop H)
  have M:1<=ds[k]:=E _ (List.getElem_mem D);generalize ds[k]=K at *;generalize a_e (ds.take k)=T at *;rw [e,show T*(K*P)=P*(K*T) by rw [Nat.mul_comm T,Nat.mul_comm K P,Nat.mul_assoc],Nat.mod_mul_right_div_self,Nat.mod_mul_right_mod]
/-- What is left of a number behind the sides from k on. -/
theorem n_H (d:List Nat) (a k:Nat) (D:k < d.length):a / a_e (d.drop (k+1)) / d[k]=a / a_e (d.drop k):=by
 rw [Nat.div_div_eq_div_mul,c_c d k D,Nat.mul_comm]
/-- The sum of products, of the first k. -/
def h_t (p s:List Nat):Nat->Nat
 | 0=>0
 | k+1=>h_t p s k+p.getD k 0*s.getD k 0
theorem h_z (E D:Nat) (p s:List Nat):∀ k,h_t (E :: p) (D :: s) (k+1)=E*D+h_t p s k
 | 0=>by simp [h_t]
 | k+1=>by
  rw [h_t,h_z E D p s k,h_t];simp only [List.getD_cons_succ];omega
theorem c_6:∀ (d p:List Nat),p.length=d.length->h_t p (a_x d) d.length=c_y d p
 | [],[],_=>rfl
 | d :: ds,p :: ps,h=>by
  rw [a_x,List.length_cons,h_z,c_6 ds ps (by simpa using h),c_y]
 | [],_ :: _,h=>by simp at h
 | _ :: _,[],h=>by simp at h
/-- The i-th side from the last on (from 1), 1 where there is none. -/
def a_T (l:List Nat) (i:Nat):Nat:=if i<=l.length then l.getD (l.length - i) 1 else 1
theorem c_A {l:List Nat} (h:∀ x,x∈l->1<=x) (i:Nat):1<=a_T l i:=by
 unfold a_T
 split
 ·rw [List.getD_eq_getElem?_getD];cases D:l[l.length - i]? with
  | none=>exact Nat.le_refl _
  | some x=>exact h x (List.mem_of_getElem? D)
 ·exact Nat.le_refl _
theorem d_3 (l:List Nat) (j:Nat) (h:j < l.length):l[j]?=some (a_T l (l.length - j)):=by
 unfold a_T;rw [if_pos (by omega),show l.length - (l.length - j)=j by omega,List.getD_eq_getElem?_getD,List.getElem?_eq_getElem h];rfl
theorem e_S {a b:List Nat} (D:a.length=b.length) (h:∀ i,1<=i->i<=a.length->a_T a i=a_T b i):a=b:=by
 refine List.ext_getElem? fun j=>?_;by_cases E:j < a.length
 ·rw [d_3 a j E,d_3 b j (by omega),h (a.length - j) (by omega) (by omega),D]
 ·rw [List.getElem?_eq_none (by omega),List.getElem?_eq_none (by omega)]
/-- The list of n sides. -/
def e_9 (n:Nat) (f:Nat->Nat):List Nat:=(List.range n).map fun j=>f (n - j)
theorem f_a (n:Nat) (f:Nat->Nat):(e_9 n f).length=n:=by simp [e_9]
theorem h_A (n:Nat) (f:Nat->Nat) (i:Nat) (D:1<=i) (h:i<=n):a_T (e_9 n f) i=f i:=by
 unfold a_T;rw [f_a,if_pos h,List.getD_eq_getElem?_getD,e_9,List.getElem?_map,List.getElem?_range (by omega)];simp only [Option.map_some,Option.getD_some];rw [show n - (n - i)=i by omega]
theorem c_7 (l:List Nat) (i:Nat) (h:l.length < i):a_T l i=1:=by
 unfold a_T;rw [if_neg (by omega)]
def joinN (a b:List Nat):List Nat:=e_9 (max a.length b.length) fun i=>max (a_T a i) (a_T b i)
abbrev j_o (x y:Nat):Prop:=x=y∨x=1∨y=1
def b_2 (a b:List Nat):Prop:=∀ i,1<=i->i<=max a.length b.length->j_o (a_T a i) (a_T b i)
theorem a_6 (a b:List Nat):(joinN a b).length=max a.length b.length:=f_a _ _
theorem b_q (a b:List Nat) (i:Nat) (h:1<=i):a_T (joinN a b) i=max (a_T a i) (a_T b i):=by
 by_cases D:i<=max a.length b.length
 ·exact h_A _ _ i h D
 ·rw [c_7 _ i (by rw [a_6];omega),c_7 a i (by omega),c_7 b i (by omega)];rfl
theorem b_5 (a b:List Nat):joinN a b=joinN b a:=
 e_S (by rw [a_6,a_6,Nat.max_comm]) fun i D E=>by rw [b_q _ _ _ D,b_q _ _ _ D,Nat.max_comm]
theorem r_v {x y:Nat}:j_o x y↔j_o y x:=by unfold j_o;omega
theorem e_r (a b:List Nat):b_2 a b↔b_2 b a:=by
 unfold b_2;rw [Nat.max_comm b.length];exact ⟨fun h i E D=>r_v.1 (h i E D),fun h i E D=>r_v.1 (h i E D)⟩
theorem f_b {a b:List Nat} (E:∀ x,x∈a->1<=x) (hb:∀ x,x∈b->1<=x) (h:b_2 a b):b_2 (joinN a b) a:=by
 intro i D H;rw [b_q _ _ _ D];rw [a_6] at H;have:=h i D (by omega);have I:=c_A E i;have J:=c_A hb i;unfold j_o at *;omega
theorem f_c (a b:List Nat):joinN (joinN a b) a=joinN a b:=
 e_S (by rw [a_6,a_6];omega) fun i D E=>by
  rw [b_q _ _ _ D,b_q _ _ _ D];omega
/-- A shape spread to another's length: ones ahead. -/
def l_k (n:Nat) (l:List Nat):List Nat:=List.replicate (n - l.length) 1++l
theorem d_r (n:Nat) (l:List Nat) (h:l.length<=n):(l_k n l).length=n:=by simp [l_k];omega
theorem l_l (n:Nat) (l:List Nat) (h:l.length<=n) (i:Nat) (E:1<=i):a_T (l_k n l) i=a_T l i:=by
 by_cases D:i<=l.length
 ·unfold a_T;rw [d_r n l h,if_pos D,if_pos (by omega),l_k,List.getD_eq_getElem?_getD,List.getElem?_append_right (by simp;omega),List.getD_eq_getElem?_getD]
  congr 2
  simp;omega
 ·rw [c_7 l i (by omega)];unfold a_T;rw [d_r n l h]
  split
  ·rw [l_k,List.getD_eq_getElem?_getD,List.getElem?_append_left (by simp;omega)];rw [List.getElem?_replicate]
   split <;> rfl
  ·rfl
theorem k_t (m:Nat):a_e (List.replicate m 1)=1:=by
 induction m with
 | zero=>rfl
 | succ m ih=>rw [List.replicate_succ,a_e,ih]
theorem l_m (n:Nat) (l:List Nat):a_e (l_k n l)=a_e l:=by rw [l_k,a_D,k_t,Nat.one_mul]
/-- What is spread where: of each side that is 1 its only number. -/
def d_4:List Nat->List Nat->List Nat
 | d :: ds,p :: ps=>(if d=1 then 0 else p) :: d_4 ds ps
 | _,_=>[]
theorem h_B:∀ d p:List Nat,p.length=d.length->(d_4 d p).length=d.length
 | [],[],_=>rfl
 | d :: ds,p :: ps,h=>by simp [d_4,h_B ds ps (by simpa using h)]
 | [],_ :: _,h=>by simp at h
 | _ :: _,[],h=>by simp at h
theorem h_C:∀ (d p:List Nat) (k:Nat) (x y:Nat),d[k]?=some x->p[k]?=some y->(d_4 d p)[k]?=some (if x=1 then 0 else y)
 | d :: ds,p :: ps,0,x,y,hx,hy=>by
  simp at hx hy;subst hx hy;rfl
 | d :: ds,p :: ps,k+1,x,y,hx,hy=>by
  simp only [d_4,List.getElem?_cons_succ];exact h_C ds ps k x y (by simpa using hx) (by simpa using hy)
 | [],_,k,x,y,hx,_=>by simp at hx
 | _ :: _,[],k,x,y,_,hy=>by simp at hy
/-- The place of the number that is spread to the place a of big. -/
def b_U (d big:List Nat) (a:Nat):Nat:=c_y d (d_4 d ((a_S big a).drop (big.length - d.length)))
/-- The same, side by side. -/
def frN:List Nat->List Nat->Nat->Nat
 | d :: ds,b :: bs,a=>(if d=1 then 0 else a / a_e bs)*a_e ds+frN ds bs (a % a_e bs)
 | _,_,_=>0
theorem l_n:∀ (d b:List Nat) (a:Nat),d.length=b.length->c_y d (d_4 d (a_S b a))=frN d b a
 | [],[],_,_=>rfl
 | d :: ds,b :: bs,a,h=>by rw [a_S,d_4,c_y,l_n ds bs _ (by simpa using h),frN]
 | [],_ :: _,_,h=>by simp at h
 | _ :: _,[],_,h=>by simp at h
theorem h_D:∀ (m:Nat) (d p:List Nat),p.length=m+d.length->c_y (List.replicate m 1++d) (d_4 (List.replicate m 1++d) p)=c_y d (d_4 d (p.drop m))
 | 0,d,p,h=>by simp
 | m+1,d,[],h=>by simp at h;omega
 | m+1,d,p :: ps,h=>by
  rw [List.replicate_succ,List.cons_append,d_4,c_y,if_pos rfl,Nat.zero_mul,Nat.zero_add,h_D m d ps (by simp at h;omega),List.drop_succ_cons]
theorem j_p (d big:List Nat) (a:Nat) (h:d.length<=big.length):b_U d big a=frN (l_k big.length d) big a:=by
 rw [<- l_n _ _ _ (d_r _ _ h),l_k,h_D _ d _ (by rw [c_z];omega)];rfl
/-- Each side of d is 1 or big's. -/
def j_q:List Nat->List Nat->Prop
 | d :: ds,b :: bs=>(d=1∨d=b)/\j_q ds bs
 | [],[]=>True
 | _,_=>False
theorem h_E:∀ {d b:List Nat},d.length=b.length->(∀ (k:Nat) (x y:Nat),d[k]?=some x->b[k]?=some y->x=1∨x=y)->j_q d b
 | [],[],_,_=>trivial
 | d :: ds,b :: bs,hl,h=>⟨h 0 d b rfl rfl,h_E (by simpa using hl) fun k x y E D=>h (k+1) x y (by simpa using E) (by simpa using D)⟩
 | [],_ :: _,hl,_=>by simp at hl
 | _ :: _,[],hl,_=>by simp at hl
theorem n_I {d big:List Nat} (L:∀ x,x∈d->1<=x) (hb:∀ x,x∈big->1<=x) (hf:b_2 d big) (H:joinN d big=big):d.length<=big.length/\j_q (l_k big.length d) big:=by
 have D:d.length<=big.length:=by
  have:=congrArg List.length H;rw [a_6] at this;omega
 refine ⟨D,h_E (d_r _ _ D) fun k x y I E=>?_⟩;have J:k < big.length:=(List.getElem?_eq_some_iff.1 E).1;rw [d_3 _ k (by rw [d_r _ _ D];exact J),d_r _ _ D,l_l _ _ D _ (by omega)] at I;rw [d_3 _ k J] at E;cases I;cases E;have O:=hf (big.length - k) (by omega) (by omega);have M:=congrArg (fun l=>a_T l (big.length - k)) H;simp only [b_q _ _ _ (show 1<=big.length - k by omega)] at M;have R:=c_A L (big.length - k);have U:=c_A hb (big.length - k);unfold j_o at O;omega
theorem p_f:∀ {d b:List Nat},j_q d b->(∀ x,x∈b->1<=x)->∀ a,a < a_e b->frN d b a < a_e d
 | [],[],_,_,a,_=>by simp [frN,a_e]
 | d :: ds,b :: bs,h,hb,a,ha=>by
  have E:=a_A (d:=bs) fun y D=>hb y (List.mem_cons_of_mem _ D);have J:=p_f h.2 (fun y D=>hb y (List.mem_cons_of_mem _ D)) (a % a_e bs) (Nat.mod_lt _ E);have I:a / a_e bs < b:=Nat.div_lt_of_lt_mul (by rw [Nat.mul_comm];exact ha)
  have H:(if d=1 then 0 else a / a_e bs) < d:=by
   rcases h.1 with e|e
   ·rw [if_pos e];omega
   ·split <;> omega
  rw [frN,a_e];have:=Nat.mul_le_mul_right (a_e ds) (show (if d=1 then 0 else a / a_e bs)+1<=d from H);rw [Nat.add_mul] at this;omega
 | [],_ :: _,h,_,_,_=>h.elim
 | _ :: _,[],h,_,_,_=>h.elim
theorem g_C {d big:List Nat} (H:∀ x,x∈d->1<=x) (hb:∀ x,x∈big->1<=x) (hf:b_2 d big) (E:joinN d big=big) (a:Nat) (I:a < a_e big):b_U d big a < a_e d:=by
 obtain ⟨D,J⟩:=n_I H hb hf E;rw [j_p d big a D,<- l_m big.length d];exact p_f J hb a I
theorem f_d:∀ {d p:List Nat},d_2 d p->d_4 d p=p
 | [],[],_=>rfl
 | d :: ds,p :: ps,h=>by
  rw [d_4,f_d h.2]
  congr 1
  have:=h.1
  split <;> omega
 | [],_ :: _,h=>h.elim
 | _ :: _,[],h=>h.elim
def ntl (l:List Int):List Nat:=l.map Int.toNat
def itl (l:List Nat):List Int:=l.map fun (x:Nat)=>(x:Int)
theorem a_Q (l:List Int):(ntl l).length=l.length:=by simp [ntl]
theorem a_v (l:List Nat):(itl l).length=l.length:=by simp [itl]
theorem a_p (l:List Nat):ntl (itl l)=l:=by
 unfold ntl itl;rw [List.map_map];exact (List.map_congr_left fun x _=>by simp).trans (List.map_id _)
theorem l_o {l:List Int} (h:∀ x,x∈ntl l->1<=x):itl (ntl l)=l:=by
 unfold ntl itl at *;rw [List.map_map];refine (List.map_congr_left fun x D=>?_).trans (List.map_id _);have:=h x.toNat (List.mem_map.2 ⟨x,D,rfl⟩)
 show ((x.toNat:Nat):Int)=x;omega
theorem p_Q {a b:List Nat} (h:itl a=itl b):a=b:=by rw [<- a_p a,h,a_p]
theorem a_r {α:Type} (l:List α) (k:Nat) (d:α) (h:k < l.length):l.getD k d=l[k]:=by
 rw [List.getD_eq_getElem?_getD,List.getElem?_eq_getElem h];rfl
theorem a_O (l:List Nat) (k:Nat):(itl l).getD k 0=((l.getD k 0:Nat):Int):=by
 rw [List.getD_eq_getElem?_getD,List.getD_eq_getElem?_getD,itl,List.getElem?_map];cases l[k]? <;> rfl
theorem d_5 (l:List Int) (k:Nat) (h:k < l.length):(ntl l).getD k 0=(l.getD k 0).toNat:=by
 rw [List.getD_eq_getElem?_getD,List.getD_eq_getElem?_getD,ntl,List.getElem?_map,List.getElem?_eq_getElem h];rfl
def f_e (d:List Nat):Nat:=if goodN d then a_e d else 0
theorem b_6 {d:List Nat} (h:goodN d):f_e d=a_e d:=if_pos h
theorem f_f {d:List Nat} (h:¬ goodN d):f_e d=0:=if_neg h
theorem goodN.pos {d:List Nat} (h:goodN d):1<=a_e d:=a_A h.2.1
theorem l_p (d:List Nat):(0 < f_e d)↔goodN d:=by
 unfold f_e
 split
 ·rename_i h;have:=h.pos;exact ⟨fun _=>h,fun _=>by omega⟩
 ·rename_i h;exact ⟨fun D=>by omega,fun D=>absurd D h⟩
/-- The product of the first k, and that they are not below 1. -/
def pK (l:List Int) (k:Nat):Int:=((a_e ((ntl l).take k):Nat):Int)
def okK (l:List Int) (k:Nat):Prop:=∀ i,i < k->1<=l.getD i 0
theorem p_R (l:List Int):pK l 0=1:=rfl
theorem n_J (l:List Int):okK l 0:=fun i h=>absurd h (Nat.not_lt_zero _)
theorem l_q (l:List Int) (k:Nat) (D:k < l.length) (h:1<=l.getD k 0):pK l (k+1)=pK l k*l.getD k 0:=by
 unfold pK;rw [b_D _ k (by rw [a_Q];exact D),Int.natCast_mul]
 congr 1
 rw [<- a_r (ntl l) k 0 (by rw [a_Q];exact D),d_5 l k D];omega
theorem n_K {l:List Int} {k:Nat} (h:okK l k) (H:1<=l.getD k 0):okK l (k+1):=fun i E=>by
 rcases Nat.lt_succ_iff_lt_or_eq.1 E with D|rfl
 ·exact h i D
 ·exact H
theorem p_S {l:List Int} {k:Nat} (D:k < l.length):(l.getD k 0).toNat∈ntl l:=by
 rw [a_r l k 0 D];exact List.mem_map.2 ⟨_,List.getElem_mem D,rfl⟩
theorem p_T {l:List Int} {k:Nat} (E:k < l.length) (h:l.getD k 0 < 1):¬ goodN (ntl l):=fun D=>by
 have:=D.2.1 _ (p_S E);omega
theorem p_U {l:List Int} (D:goodN (ntl l)) (k:Nat):1<=pK l k/\pK l k<=4096:=by
 have J:=d_0 D.2.1 k;have I:=a_A (d:=(ntl l).take k) fun x E=>D.2.1 x (List.mem_of_mem_take E);have H:=D.2.2;unfold pK;omega
theorem l_r {l:List Int} {k:Nat} (H:k < l.length) (D:1<=l.getD k 0) (h:4096 < pK l k*l.getD k 0):¬ goodN (ntl l):=fun E=>by
 have:=p_U E (k+1);rw [l_q l k H D] at this;omega
theorem n_L {l:List Int} (H:l.length<=4) (D:okK l l.length) (h:pK l l.length<=4096):goodN (ntl l)/\pK l l.length=((a_e (ntl l):Nat):Int):=by
 have e:(ntl l).take l.length=ntl l:=List.take_of_length_le (by rw [a_Q];exact Nat.le_refl _);unfold pK at *;rw [e] at h ⊢;refine ⟨⟨by rw [a_Q];exact H,fun x J=>?_,by omega⟩,rfl⟩;obtain ⟨y,I,rfl⟩:=List.mem_map.1 J;obtain ⟨i,E,rfl⟩:=List.mem_iff_getElem.1 I;have:=D i E;rw [a_r l i 0 E] at this;omega
theorem n_M {l:List Int} (h:4 < l.length):¬ goodN (ntl l):=fun D=>by
 have:=D.1;rw [a_Q] at this;omega
/-- The quotient that a bound is held against. -/
theorem r_w (x y:Int) (E:1<=x) (H:x<=4096) (h:y<=4096 / x) (D:1<=y):x*y<=4096/\1<=x*y:=by
 have L:x*(4096 / x)<=4096:=Int.mul_ediv_self_le (by omega);have J:x*y<=x*(4096 / x):=Int.mul_le_mul_of_nonneg_left h (by omega);have I:1*1<=x*y:=Int.mul_le_mul E D (by omega) (by omega);omega
theorem r_x (x y:Int) (I:1<=x) (E:x<=4096) (h:4096 / x < y):4096 < x*y:=by
 have D:4096 < (4096 / x+1)*x:=Int.lt_mul_of_ediv_lt (by omega) (by omega);have H:x*(4096 / x+1)<=x*y:=Int.mul_le_mul_of_nonneg_left (by omega) (by omega);rw [Int.mul_comm] at D;omega
/-- A row in the making, from its end on. -/
def k_u (L:List Int) (k:Nat):List Int:=List.replicate (L.length - k) 0++L.drop (L.length - k)
theorem e_T (L:List Int) (k:Nat):(k_u L k).length=L.length:=by
 unfold k_u;rw [List.length_append,List.length_replicate,List.length_drop];omega
theorem h_F (L:List Int):k_u L 0=List.replicate L.length 0:=by simp [k_u]
theorem h_G (L:List Int):k_u L L.length=L:=by simp [k_u]
theorem j_r (L:List Int) (j k:Nat) (h:j+k+1=L.length):(k_u L k).set j (L.getD j 0)=k_u L (k+1):=by
 unfold k_u;rw [show L.length - k=j+1 by omega,show L.length - (k+1)=j by omega,List.replicate_succ',List.append_assoc,List.set_append_right _ _ (by simp),List.length_replicate,Nat.sub_self,List.drop_eq_getElem_cons (show j < L.length by omega),a_r L j 0 (by omega)];rfl
/-- The product of the last k. -/
def sK (d:List Nat) (k:Nat):Int:=((a_e (d.drop (d.length - k)):Nat):Int)
theorem p_V (d:List Nat):sK d 0=1:=by simp [sK,a_e]
theorem l_s (d:List Nat) (j k:Nat) (h:j+k+1=d.length):sK d (k+1)=sK d k*((d.getD j 0:Nat):Int):=by
 unfold sK;rw [show d.length - k=j+1 by omega,show d.length - (k+1)=j by omega,c_c d j (by omega),Int.natCast_mul,Int.mul_comm,a_r d j 0 (by omega)]
theorem p_g {d:List Nat} (h:goodN d) (k:Nat):1<=sK d k/\sK d k<=4096:=by
 have I:=d_1 h.2.1 (d.length - k);have H:=a_A (d:=d.drop (d.length - k)) fun x D=>h.2.1 x (List.mem_of_mem_drop D);have E:=h.2.2;unfold sK;omega
theorem goodN.at {d:List Nat} (h:goodN d) (j:Nat) (D:j < d.length):1<=d.getD j 0/\d.getD j 0<=4096:=by
 rw [a_r d j 0 D];exact ⟨h.2.1 _ (List.getElem_mem D),h.le _ (List.getElem_mem D)⟩
def c_I (d:List Int):List Int:=if goodN (ntl d) then itl (a_x (ntl d)) else []
theorem g_d (d:List Nat) (j k:Nat) (h:j+k+1=d.length):(itl (a_x d)).getD j 0=sK d k:=by
 rw [a_O,List.getD_eq_getElem?_getD,c_5 d j (by omega)];unfold sK;rw [show d.length - k=j+1 by omega];rfl
/-- What a walk from the first side on has reckoned. -/
def hK (d p:List Int) (k:Nat):Int:=((r_u (ntl d) (ntl p) k:Nat):Int)
/-- Do two fit, by looking. -/
def n_N (a b:List Nat):Bool:=(List.range (max a.length b.length+1)).all fun i=>decide (i=0) || decide (j_o (a_T a i) (a_T b i))
theorem c_B (a b:List Nat):n_N a b=true↔b_2 a b:=by
 unfold n_N b_2;rw [List.all_eq_true];constructor
 ·intro h i J I;have:=h i (List.mem_range.2 (by omega));rw [Bool.or_eq_true,decide_eq_true_eq,decide_eq_true_eq] at this;rcases this with D|D
  ·omega
  ·exact D
 ·intro h i E;have E:=List.mem_range.1 E;rw [Bool.or_eq_true,decide_eq_true_eq,decide_eq_true_eq];by_cases H:i=0
  ·exact .inl H
  ·exact .inr (h i (by omega) (by omega))
/-- What two spread to, and the error. -/
def b_W (a b:List Int):List Int:=if goodN (ntl a)/\goodN (ntl b)/\n_N (ntl a) (ntl b)=true/\goodN (joinN (ntl a) (ntl b)) then itl (joinN (ntl a) (ntl b)) else []
def b_x (a b:List Int):Int:=if goodN (ntl a)/\goodN (ntl b) then if n_N (ntl a) (ntl b)=true then if goodN (joinN (ntl a) (ntl b)) then 0 else 2 else 4 else 1
theorem h_H {a b:List Int} (h:¬ (goodN (ntl a)/\goodN (ntl b))):b_W a b = []/\b_x a b=1:=⟨if_neg fun D=>h ⟨D.1,D.2.1⟩,if_neg h⟩
theorem i_v {a b:List Nat} (E:goodN a) (hb:goodN b) (h:¬ b_2 a b):b_W (itl a) (itl b) = []/\b_x (itl a) (itl b)=4:=by
 unfold b_W b_x;rw [a_p,a_p];exact ⟨if_neg fun D=>h ((c_B a b).1 D.2.2.1),by rw [if_pos ⟨E,hb⟩,if_neg fun D=>h ((c_B a b).1 D)]⟩
theorem k_v {a b:List Nat} (E:goodN a) (hb:goodN b) (hf:b_2 a b) (h:¬ goodN (joinN a b)):b_W (itl a) (itl b) = []/\b_x (itl a) (itl b)=2:=by
 unfold b_W b_x;rw [a_p,a_p];exact ⟨if_neg fun D=>h D.2.2.2,by rw [if_pos ⟨E,hb⟩,if_pos ((c_B a b).2 hf),if_neg h]⟩
theorem b_u {a b:List Nat} (D:goodN a) (hb:goodN b) (hf:b_2 a b) (h:goodN (joinN a b)):b_W (itl a) (itl b)=itl (joinN a b)/\b_x (itl a) (itl b)=0:=by
 unfold b_W b_x;rw [a_p,a_p];exact ⟨if_pos ⟨D,hb,(c_B a b).2 hf,h⟩,by rw [if_pos ⟨D,hb⟩,if_pos ((c_B a b).2 hf),if_pos h]⟩
theorem l_t (d:List Nat) (k:Nat) (D:1<=k) (h:k<=d.length):(itl d).getD (d.length - k) 0=((a_T d k:Nat):Int):=by
 rw [a_O];unfold a_T;rw [if_pos h,a_r d _ 0 (by omega),a_r d _ 1 (by omega)]
theorem e_U {d:List Nat} (h:goodN d) (k:Nat):1<=a_T d k/\a_T d k<=4096:=by
 refine ⟨c_A h.2.1 k,?_⟩;unfold a_T
 split
 ·rw [List.getD_eq_getElem?_getD];cases D:d[d.length - k]? with
  | none=>show 1<=4096;omega
  | some x=>exact h.le x (List.mem_of_getElem? D)
 ·omega
theorem p_W (a b:List Nat) (j k:Nat) (h:j+k+1=max a.length b.length):(itl (joinN a b)).getD j 0=((max (a_T a (k+1)) (a_T b (k+1)):Nat):Int):=by
 have:=l_t (joinN a b) (k+1) (by omega) (by rw [a_6];omega);rw [a_6,show max a.length b.length - (k+1)=j by omega,b_q _ _ _ (by omega)] at this;exact this
/-- The side that two sides spread to, and whether they do. -/
def jnd (x y:Int):Int:=if x=1 then y else x
def jok (x y:Int):Bool:=decide (x=1∨y=1∨x=y)
theorem p_X (x y:Nat):jok (x:Int) (y:Int)=decide (j_o x y):=by
 unfold jok j_o;exact decide_eq_decide.2 (by omega)
theorem p_Y (x y:Nat) (E:1<=x) (D:1<=y) (h:j_o x y):jnd (x:Int) (y:Int)=((max x y:Nat):Int):=by
 unfold jnd j_o at *
 split <;> omega
theorem g_e {a b:List Int} (h:b_x a b=0):goodN (ntl a)/\goodN (ntl b)/\b_2 (ntl a) (ntl b)/\goodN (joinN (ntl a) (ntl b)):=by
 unfold b_x at h
 split at h
 ·rename_i D
  split at h
  ·rename_i H
   split at h
   ·rename_i E;exact ⟨D.1,D.2,(c_B _ _).1 H,E⟩
   ·omega
  ·omega
 ·omega
theorem l_u (a b:List Int):(b_W a b).length<=4:=by
 unfold b_W
 split
 ·rename_i h;rw [a_v];exact h.2.2.2.1
 ·simp
theorem g_D {d big:List Nat} (D:joinN d big=big):d.length<=big.length:=by
 have:=congrArg List.length D;rw [a_6] at this;omega
/-- The place that is spread to the place a of big. -/
def qN (d big:List Nat) (a:Nat):List Nat:=d_4 d ((a_S big a).drop (big.length - d.length))
theorem r_y (d big:List Nat) (a:Nat) (h:d.length<=big.length):(qN d big a).length=d.length:=h_B _ _ (by rw [List.length_drop,c_z];omega)
/-- A number of the spread place, by big's place. -/
theorem p_Z {d big:List Nat} (h:d.length<=big.length) (a i:Nat) (E:i < d.length):(((qN d big a).getD i 0:Nat):Int)=if ((d.getD i 0:Nat):Int)=1 then 0 else (itl (a_S big a)).getD (big.length - d.length+i) 0:=by
 have J:=c_z big a;have H:d[i]?=some (d.getD i 0):=by rw [List.getElem?_eq_getElem E,a_r d i 0 E]
 have I:((a_S big a).drop (big.length - d.length))[i]?=some ((a_S big a).getD (big.length - d.length+i) 0):=by
  rw [List.getElem?_drop,List.getElem?_eq_getElem (by omega),a_r _ _ 0 (by omega)]
 rw [a_O,List.getD_eq_getElem?_getD,qN,h_C d _ i _ _ H I];simp only [Option.getD_some];by_cases D:d.getD i 0=1
 ·rw [if_pos D,if_pos (by rw [D];rfl)];rfl
 ·rw [if_neg D,if_neg (by omega)]
/-- Go's ints. -/
def RI (l:List Int):Prop:=∀ y,y∈l->-9223372036854775808<=y/\y<=9223372036854775807
theorem RI.at {l:List Int} (h:RI l) (k:Nat) (D:k < l.length):-9223372036854775808<=l.getD k 0/\l.getD k 0<=9223372036854775807:=by
 rw [a_r l k 0 D];exact h _ (List.getElem_mem D)
/-- A slice's cells, as a walk reads them. -/
def Lst (w:World) (p:Option Addr) (n:Nat) (l:List Int):Prop:=l.length=n/\∀ j,j < n->∃ q o,p=some ⟨q,o,none⟩/\w.cell? ⟨q,o+j,none⟩=some (.int .i64 (l.getD j 0))
theorem Nums.lst {w:World} {v:Value} {l:List Int} (h:Nums .i64 w v l):∃ p n c,v = .slice p n c/\Hid (Lst w p n l):=by
 obtain ⟨p,c,rfl,D⟩:=h.view;exact ⟨p,_,c,rfl,rfl,D⟩
theorem size_any (v:Value) (l:List Int) (hl:RI l) (w:World) (hv:Nums .i64 w v l):
  Calls Tryz.prog 76 #[v] w fun e w'=>e = .returned (.int .i64 ((f_e (ntl l):Nat):Int))/\w'=w:=by
 obtain ⟨p,n,c,rfl,HC⟩:=hv.lst;have HL:Hid (RI l):=hl;obtain ⟨r,er⟩:∃ r:Int,((f_e (ntl l):Nat):Int)=r:=⟨_,rfl⟩
 have HR:Hid (((f_e (ntl l):Nat):Int)=r):=er;rw [er];clear er hv hl;go_enter Tryz.func76,Tryz.ntmps76;by_cases hn:4 < n
 ·have ac:(4:Int) < (n:Int):=by omega
  go_wp2;go_ret;have:=n_M (l:=l) (by rw [HC.out.1];exact hn);rw [<- HR.out,f_f this];exact ⟨rfl,rfl⟩
 have ac:(n:Int)<=4:=by omega
 go_wp2_with fail
 go_loopg [3,11] n (fun gg u v wr=>∃ (k:Nat) (x:Int),k<=n/\gg=n - k/\u = .int .i64 x/\v = .int .i64 (k:Int)/\Hid (x=pK l k/\okK l k)/\1<=x/\x<=4096/\wr=w)
 case atStart=>exact ⟨0,1,by omega,by omega,rfl,rfl,⟨(p_R l).symm,n_J l⟩,by omega,by omega,rfl⟩
 case round=>
  obtain ⟨k,x,hk,hg,rfl,rfl,L,U,I,rfl⟩:=hrel;by_cases V:k < n
  ·have ag:(k:Int) < (n:Int):=by omega
   obtain ⟨q,o,rfl,E⟩:=HC.out.2 k V;have H:k < l.length:=by rw [HC.out.1];exact V
   have Hk:Hid (k < l.length):=H;have hy:=HL.out.at k H;obtain ⟨y,ey⟩:∃ y,l.getD k 0=y:=⟨_,rfl⟩
   have J:Hid (l.getD k 0=y):=ey;rw [ey] at E hy;obtain ⟨O,M⟩:∃ O,(4096:Int) / x=O:=⟨_,rfl⟩
   have af:0<=O/\O<=4096:=by
    rw [<- M];exact ⟨Int.ediv_nonneg (by omega) (by omega),Int.ediv_le_self _ (by omega)⟩
   have ae:Int.tdiv 4096 x=O:=by rw [Int.tdiv_eq_ediv_of_nonneg (by omega)];exact M
   clear ey H;by_cases ab:y < 1
   ·go_wp2;go_ret;rw [<- HR.out,f_f (p_T Hk.out (by rw [J.out];exact ab))];exact ⟨rfl,rfl⟩
   by_cases ad:O < y
   ·have D:¬ goodN (ntl l):=l_r Hk.out (by rw [J.out];omega) (by rw [J.out,<- L.out.1];exact r_x x y U I (by rw [M];exact ad));have aa:Hid (¬ goodN (ntl l)):=D;clear D M;go_wp2;go_ret;rw [<- HR.out,f_f aa.out];exact ⟨rfl,rfl⟩
   ·obtain ⟨m,em⟩:∃ m,x*y=m:=⟨_,rfl⟩
    have hm:=r_w x y U I (by rw [M];omega) (by omega);rw [em] at hm;have Hn:Hid (m=pK l (k+1)/\okK l (k+1)):=⟨by rw [l_q l k Hk.out (by rw [J.out];omega),<- L.out.1,J.out,em],n_K L.out.2 (by rw [J.out];omega)⟩
    clear M;go_wp2;go_roundg (n - (k+1))
    case measure=>omega
    case rel=>exact ⟨k+1,m,by omega,rfl,by first|rfl|simp [em],by first|rfl|simp,Hn,hm.2,hm.1,rfl⟩
  ·obtain rfl:k=n:=by omega
   go_wp2;go_ret;have R:=HC.out.1;subst R;have:=n_L (l:=l) (by omega) L.out.2 (by rw [<- L.out.1];exact I);rw [<- HR.out,b_6 this.1,<- this.2,<- L.out.1];exact ⟨rfl,rfl⟩
theorem b_3 (v:Value) (l:List Int) (J:RI l) (w:World) (I:Nums .i64 w v l):
  Calls Tryz.prog 74 #[v] w fun e L=>e = .returned (.bool (decide (goodN (ntl l))))/\L=w:=by
 have H:=size_any v l J w I
 have D:decide (((f_e (ntl l):Nat):Int) > 0)=decide (goodN (ntl l)):=by
  have:=l_p (ntl l);exact decide_eq_decide.2 ⟨fun h=>this.1 (by omega),fun h=>by have:=this.2 h;omega⟩
 obtain ⟨r,E⟩:∃ r:Int,((f_e (ntl l):Nat):Int)=r:=⟨_,rfl⟩
 rw [E] at H D;rw [<- D];clear E D I;go_enter Tryz.func74,Tryz.ntmps74;go_wp2_with fail
 refine H.mono ?_;rintro e M ⟨rfl,rfl⟩;go_wp2;go_ret;exact ⟨rfl,rfl⟩
theorem r_z {a b:List Int} {n k:Nat} (D:a.length=n) (hb:b.length=n) (E:k < n) (h:a.getD k 0≠b.getD k 0):¬ a=b:=fun e=>h (by rw [e])
theorem p_h {a b:List Int} {n:Nat} (H:a.length=n) (hb:b.length=n) (h:∀ i,i < n->a.getD i 0=b.getD i 0):a=b:=
 List.ext_getElem (by omega) fun i E D=>by
  have:=h i (by omega);rw [a_r a i 0 E,a_r b i 0 D] at this;exact this
theorem f_g (u v:Value) (a b:List Int) (hm:a.length<=9223372036854775807) (w:World) (hu:Nums .i64 w u a) (hv:Nums .i64 w v b):
  Calls Tryz.prog 83 #[u,v] w fun e w'=>e = .returned (.bool (decide (a=b)))/\∃ n,w'=w.drewN n:=by
 obtain ⟨p,n,c,rfl,H⟩:=hu.lst;obtain ⟨p2,O,c2,rfl,I⟩:=hv.lst;obtain ⟨r,R⟩:∃ r:Bool,decide (a=b)=r:=⟨_,rfl⟩
 have L:Hid (decide (a=b)=r):=R;rw [R];rw [H.out.1] at hm;have ae:(n:Int)<=9223372036854775807:=by omega
 clear R hv hu;go_enter Tryz.func83,Tryz.ntmps83;by_cases hn:n=O
 ·subst hn;go_wp2_with fail
  go_loopg [13] n (fun gg v wr=>∃ (k d:Nat),k<=n/\gg=n - k/\v = .int .i64 (k:Int)/\Hid (∀ i,i < k->a.getD i 0=b.getD i 0)/\wr=w.drewN d)
  case atStart=>exact ⟨0,0,by omega,by omega,rfl,fun i hi=>by omega,rfl⟩
  case round=>
   obtain ⟨k,d,hk,hg,rfl,V,rfl⟩:=hrel;by_cases D:k < n
   ·have ad:(k:Int) < (n:Int):=by omega
    obtain ⟨q,o,rfl,ca⟩:=H.out.2 k D;obtain ⟨q2,o2,rfl,cb⟩:=I.out.2 k D;obtain ⟨x,M⟩:∃ x,a.getD k 0=x:=⟨_,rfl⟩
    obtain ⟨y,U⟩:∃ y,b.getD k 0=y:=⟨_,rfl⟩
    have J:Hid (a.getD k 0=x/\b.getD k 0=y):=⟨M,U⟩
    rw [M] at ca;rw [U] at cb;clear M U;by_cases E:x=y
    ·subst E
     have Hn:Hid (∀ i,i < k+1->a.getD i 0=b.getD i 0):=fun i hi=>by
      rcases Nat.lt_succ_iff_lt_or_eq.1 hi with h|rfl
      ·exact V.out i h
      ·rw [J.out.1,J.out.2]
     clear V;go_wp2;go_region
     all_goals
      go_wp2;go_roundg (n - (k+1))
     case measure=>omega
     case rel=>exact ⟨k+1,d+1,by omega,rfl,by first|rfl|simp,Hn,rfl⟩
    ·have aa:(x != y)=true:=by simp [E]
     go_wp2;go_region
     all_goals go_wp2
     go_ret;rw [<- L.out,decide_eq_false (r_z H.out.1 I.out.1 D (by rw [J.out.1,J.out.2];exact E))];exact ⟨rfl,d+1,rfl⟩
   ·obtain rfl:k=n:=by omega
    go_wp2;go_ret;rw [<- L.out,decide_eq_true (p_h H.out.1 I.out.1 V.out)];exact ⟨rfl,d,rfl⟩
 ·have ac:((n:Int) != (O:Int))=true:=by simp;omega
  have ab:¬ ((n:Int)=(O:Int)):=by omega
  go_wp2;go_ret;rw [<- L.out,decide_eq_false (fun e=>hn (by rw [<- H.out.1,<- I.out.1,e]))];exact ⟨rfl,0,rfl⟩
theorem n_O (u v:Value) (a b:List Int) (J:a.length<=9223372036854775807) (w:World) (E:Nums .i64 w u a) (H:Nums .i64 w v b):
  Calls Tryz.prog 121 #[u,v] w fun e L=>e = .returned (.bool (decide (a=b)))/\∃ n,L=w.drewN n:=by
 have I:=f_g u v a b J w E H;obtain ⟨r,D⟩:∃ r:Bool,decide (a=b)=r:=⟨_,rfl⟩
 rw [D] at I ⊢;clear D H E;go_enter Tryz.func121,Tryz.ntmps121;go_wp2_with fail
 refine I.mono ?_;rintro e M ⟨rfl,d,rfl⟩;go_wp2;go_ret;exact ⟨rfl,d,rfl⟩
theorem l_v (u v:Value) (a b:List Int) (hm:a.length<=9223372036854775807) (w:World) (hu:Nums .i64 w u a) (hv:Nums .i64 w v b):
  Calls Tryz.prog 30 #[u,v] w fun e w'=>e = .returned (.bool (decide (a=b)))/\∃ n,w'=w.drewN n:=by
 obtain ⟨p,n,c,rfl,H⟩:=hu.lst;obtain ⟨p2,O,c2,rfl,I⟩:=hv.lst;obtain ⟨r,R⟩:∃ r:Bool,decide (a=b)=r:=⟨_,rfl⟩
 have L:Hid (decide (a=b)=r):=R;rw [R];rw [H.out.1] at hm;have ae:(n:Int)<=9223372036854775807:=by omega
 clear R hv hu;go_enter Tryz.func30,Tryz.ntmps30;by_cases hn:n=O
 ·subst hn;go_wp2_with fail
  go_loopg [5] n (fun gg v wr=>∃ (k d:Nat),k<=n/\gg=n - k/\v = .int .i64 (k:Int)/\Hid (∀ i,i < k->a.getD i 0=b.getD i 0)/\wr=w.drewN d)
  case atStart=>exact ⟨0,0,by omega,by omega,rfl,fun i hi=>by omega,rfl⟩
  case round=>
   obtain ⟨k,d,hk,hg,rfl,V,rfl⟩:=hrel;by_cases D:k < n
   ·have ad:(k:Int) < (n:Int):=by omega
    obtain ⟨q,o,rfl,ca⟩:=H.out.2 k D;obtain ⟨q2,o2,rfl,cb⟩:=I.out.2 k D;obtain ⟨x,M⟩:∃ x,a.getD k 0=x:=⟨_,rfl⟩
    obtain ⟨y,U⟩:∃ y,b.getD k 0=y:=⟨_,rfl⟩
    have J:Hid (a.getD k 0=x/\b.getD k 0=y):=⟨M,U⟩
    rw [M] at ca;rw [U] at cb;clear M U;by_cases E:x=y
    ·subst E
     have Hn:Hid (∀ i,i < k+1->a.getD i 0=b.getD i 0):=fun i hi=>by
      rcases Nat.lt_succ_iff_lt_or_eq.1 hi with h|rfl
      ·exact V.out i h
      ·rw [J.out.1,J.out.2]
     clear V;go_wp2;go_region
     all_goals
      go_wp2;go_roundg (n - (k+1))
     case measure=>omega
     case rel=>exact ⟨k+1,d+1,by omega,rfl,by first|rfl|simp,Hn,rfl⟩
    ·have aa:(x != y)=true:=by simp [E]
     go_wp2;go_region
     all_goals go_wp2
     go_ret;rw [<- L.out,decide_eq_false (r_z H.out.1 I.out.1 D (by rw [J.out.1,J.out.2];exact E))];exact ⟨rfl,d+1,rfl⟩
   ·obtain rfl:k=n:=by omega
    go_wp2;go_ret;rw [<- L.out,decide_eq_true (p_h H.out.1 I.out.1 V.out)];exact ⟨rfl,d,rfl⟩
 ·have ac:((n:Int) != (O:Int))=true:=by simp;omega
  have ab:¬ ((n:Int)=(O:Int)):=by omega
  go_wp2;go_ret;rw [<- L.out,decide_eq_false (fun e=>hn (by rw [<- H.out.1,<- I.out.1,e]))];exact ⟨rfl,0,rfl⟩
theorem i_r:NumT Tryz.prog 22 3 .i64 8:=⟨Tryz.underlying22,by kernel_rfl⟩
theorem l_w (w:World) (a b:Nat):(w.drewN a).drewN b=w.drewN (a+b):=by unfold World.drewN;simp [Nat.add_assoc]
theorem Lst.up {w D:World} {p:Option Addr} {n:Nat} {l:List Int} (h:Lst w p n l) (E:Below w.heap.size w D):Lst D p n l:=
 ⟨h.1,fun j H=>by
  obtain ⟨q,o,e,I⟩:=h.2 j H;exact ⟨q,o,e,a_h E I⟩⟩
theorem Lst.block {w:World} {q o n:Nat} {l:List Int} (h:Lst w (some ⟨q,o,none⟩) n l) (E:0 < n):q < w.heap.size:=by
 obtain ⟨H,I,e,D⟩:=h.2 0 E;cases e;exact c_x D
theorem b_n {l:List Int} (h:goodN (ntl l)):∃ d,goodN d/\l=itl d:=⟨ntl l,h,(l_o h.2.1).symm⟩
theorem f_h (v:Value) (l:List Int) (hl:RI l) (w:World) (hv:Nums .i64 w v l):
  Calls Tryz.prog 149 #[v] w fun e w'=>∃ v',e = .returned v'/\OwnK .i64 3 w' w.heap.size v' (c_I l)/\Below w.heap.size w w':=by
 have cg:=b_3 v l hl w hv;obtain ⟨p,n,c,rfl,HC⟩:=hv.lst;clear hv hl;by_cases D:goodN (ntl l)
 ·rw [decide_eq_true D] at cg;have O:c_I l=itl (a_x (ntl l)):=if_pos D;rw [O];clear O;obtain ⟨d,hd,rfl⟩:=b_n D;rw [a_p];have HD:Hid (goodN d):=hd;obtain ⟨L,O⟩:∃ L,itl (a_x d)=L:=⟨_,rfl⟩
  have HL:Hid (itl (a_x d)=L):=O;have ab:L.length=n:=by rw [<- O,a_v,b_T,<- a_v d];exact HC.out.1
  have H:Hid (L.length=n):=ab;have I:Hid (d.length=n):=by show _=_;rw [<- a_v d];exact HC.out.1
  rw [O];have hn:n<=4:=by rw [<- I.out];exact hd.1
  have am:(n:Int)<=4:=by omega
  clear D hd O ab;go_enter Tryz.func149,Tryz.ntmps149;go_wp2_with fail
  refine cg.mono ?_;rintro e E ⟨rfl,rfl⟩;clear cg;go_wp2_with (at_make;refine a_y i_r (by decide) _ rfl (.tmp 10) (.tmp 10) rfl .i64 .i64 n n n rfl rfl rfl rfl (by omega) E.heap.size E (Nat.le_refl _) (Below.refl _ _) ?_;intro w1 HO B0 B1;clear B0)
  rw [<- H.out,<- h_F L,H.out] at HO
  go_loopg [4,5] n (fun gg u v wr=>∃ (k:Nat) (x i:Int),k<=n/\gg=n - k/\u = .int .i64 x/\v = .int .i64 i/\Hid (i=(n:Int) - 1 - (k:Int))/\Hid (x=sK d k)/\Hid (OwnK .i64 3 wr E.heap.size (.slice (some ⟨E.heap.size,0,none⟩) n n) (k_u L k))/\Hid (Below E.heap.size E wr))
  case atStart=>exact ⟨0,1,(n:Int) - 1,by omega,by omega,rfl,by first|rfl|simp,by show _=_;omega,(p_V d).symm,HO,B1⟩
  case round=>
   obtain ⟨k,x,i,hk,hg,rfl,rfl,Hi,Hx,HR,hB⟩:=hrel;by_cases ag:k < n
   ·obtain ⟨j,hj⟩:∃ j,j=n - 1 - k:=⟨_,rfl⟩
    have ad:i=(j:Int):=by have:=Hi.out;omega
    subst ad;have R:j < n:=by omega
    have af:(j:Int) < (n:Int):=by omega
    have V:Hid (j+k+1=n):=by show _=_;omega
    clear hj;obtain ⟨q,o,rfl,M⟩:=(HC.out.up hB.out).2 j R;have ak:=HC.out.block (by omega);obtain ⟨ae,aj⟩:=HR.out.cell (by rw [e_T];exact H.out) j R;have hx:=p_g HD.out k;have U:=p_g HD.out (k+1);rw [l_s d j k (by rw [I.out];exact V.out)] at U;rw [a_O] at M;have hy:=HD.out.at j (by rw [I.out];exact R);obtain ⟨y,ey⟩:∃ y:Int,((d.getD j 0:Nat):Int)=y:=⟨_,rfl⟩
    rw [<- Hx.out] at hx U;obtain ⟨m,em⟩:∃ m,x*y=m:=⟨_,rfl⟩
    have Hm:Hid (m=sK d (k+1)):=by show _=_;rw [l_s d j k (by rw [I.out];exact V.out),<- Hx.out,ey,em]
    have ah:1<=y/\y<=4096:=by omega
    rw [ey] at M U;rw [em] at U
    have H2:Hid (OwnK .i64 3 (wr.setCell ⟨E.heap.size,j,none⟩ (.int .i64 x)) E.heap.size (.slice (some ⟨E.heap.size,0,none⟩) n n) (k_u L (k+1))):=by
     have:=HR.out.store (by rw [e_T];exact H.out) j x;rw [show x=L.getD j 0 by rw [Hx.out,<- HL.out,g_d d j k (by rw [I.out];exact V.out)],j_r L j k (by rw [H.out];exact V.out)] at this;rw [show x=L.getD j 0 by rw [Hx.out,<- HL.out,g_d d j k (by rw [I.out];exact V.out)]];exact this
    have aa:Hid (Below E.heap.size E (wr.setCell ⟨E.heap.size,j,none⟩ (.int .i64 x))):=hB.out.setCell (p:=⟨E.heap.size,j,none⟩) (Nat.le_refl _) _
    have ac:=a_h aa.out (show E.cell? ⟨q,o+j,none⟩=some (.int .i64 y) by
     obtain ⟨q',o',e',h'⟩:=HC.out.2 j R;cases e';rw [h',a_O,ey])
    have ai:¬ q=E.heap.size:=by omega
    clear ey hy;go_wp2;go_roundg (n - (k+1))
    case measure=>omega
    case rel=>exact ⟨k+1,m,(j:Int) - 1,by omega,rfl,by first|rfl|simp [em],by first|rfl|simp,by have:=V.out;show _=_;omega,Hm,H2,aa⟩
   ·obtain rfl:k=n:=by omega
    have an:i < 0:=by have:=Hi.out;omega
    have J:=HR.out;rw [<- H.out,h_G,H.out] at J;have HF:Hid (OwnK .i64 3 wr E.heap.size (.slice (some ⟨E.heap.size,0,none⟩) k k) L/\Below E.heap.size E wr):=⟨J,hB.out⟩
    clear J;go_wp2;exact bodyPost_ret (v:=.slice (some ⟨E.heap.size,0,none⟩) k k) (by simp [results,Tryz.results149,go_sem]) rfl ⟨_,rfl,HF.out⟩
 ·rw [decide_eq_false D] at cg;have O:c_I l = []:=if_neg D;rw [O];clear O D;go_enter Tryz.func149,Tryz.ntmps149;go_wp2_with fail
  refine cg.mono ?_;rintro e E ⟨rfl,rfl⟩;go_wp2;exact bodyPost_ret (v:=.slice none 0 0) (by simp [results,Tryz.results149,go_sem]) rfl ⟨_,rfl,OwnK.nil _ _ _ _,Below.refl _ _⟩
theorem j_s (v:Value) (d:List Nat) (J:goodN d) (k:Nat) (hk:1<=k/\k<=4) (w:World) (M:Nums .i64 w v (itl d)):
  Calls Tryz.prog 148 #[v,.int .i64 (k:Int)] w fun e w'=>e = .returned (.int .i64 ((a_T d k:Nat):Int))/\w'=w:=by
 obtain ⟨p,n,c,rfl,O⟩:=M.lst;have D:d.length=n:=by rw [<- a_v d];exact O.out.1
 have hn:n<=4:=by rw [<- D];exact J.1
 have V:(n:Int)<=4:=by omega
 obtain ⟨r,I⟩:∃ r:Int,((a_T d k:Nat):Int)=r:=⟨_,rfl⟩
 by_cases aa:n < k
 ·have H:(n:Int) < (k:Int):=by omega
  rw [c_7 d k (by omega)];clear M I D J;go_enter Tryz.func148,Tryz.ntmps148;go_wp2;go_ret;exact ⟨rfl,rfl⟩
 ·have H:(k:Int)<=(n:Int):=by omega
  obtain ⟨j,R⟩:∃ j,j=n - k:=⟨_,rfl⟩
  have U:(n:Int) - (k:Int)=(j:Int):=by omega
  have ab:(j:Int) < (n:Int):=by omega
  have L:=l_t d k hk.1 (by omega);rw [D,<- R,I] at L;obtain ⟨q,o,rfl,E⟩:=O.out.2 j (by omega);rw [L] at E;rw [I];clear M I D J L R;go_enter Tryz.func148,Tryz.ntmps148;go_wp2;go_ret;exact ⟨rfl,rfl⟩
theorem k_w (x y:Int) (w:World):
  Calls Tryz.prog 147 #[.int .i64 x,.int .i64 y] w fun e L=>e = .returned (.tuple #[.int .i64 (jnd x y),.bool (jok x y)])/\L=w:=by
 by_cases D:x=1
 ·subst D;rw [show jnd 1 y=y from rfl,show jok 1 y=true by unfold jok;exact decide_eq_true (.inl rfl)];go_enter Tryz.func147,Tryz.ntmps147;go_wp2;go_ret2;exact ⟨rfl,rfl⟩
 ·rw [show jnd x y=x from if_neg D];have J:(x==1)=false:=by simp [D]
  by_cases I:y=1
  ·subst I;rw [show jok x 1=true by unfold jok;exact decide_eq_true (.inr (.inl rfl))];go_enter Tryz.func147,Tryz.ntmps147;go_wp2;go_ret2;exact ⟨rfl,rfl⟩
  ·have M:(y==1)=false:=by simp [I]
   have H:jok x y=(x==y):=by
    unfold jok;by_cases h:x=y
    ·rw [decide_eq_true (.inr (.inr h))];simp [h]
    ·rw [decide_eq_false (by rintro (E|E|E) <;> contradiction)];simp [h]
   rw [H];clear H;go_enter Tryz.func147,Tryz.ntmps147;go_wp2;go_ret2;exact ⟨rfl,rfl⟩
theorem j_t {d:List Nat} (h:∀ x,x∈d->x<=4096):RI (itl d):=by
 intro y D;obtain ⟨x,E,rfl⟩:=List.mem_map.1 D;have:=h x E;omega
theorem p_0 {a b:List Nat} (D:goodN a) (hb:goodN b):RI (itl (joinN a b)):=by
 refine j_t fun x E=>?_;obtain ⟨j,_,rfl⟩:=List.mem_map.1 E;have I:=e_U D (max a.length b.length - j);have H:=e_U hb (max a.length b.length - j);show max _ _<=4096;omega
theorem i_w {P:Program} {w:World} (E:Array TypeId) (t:TypeId) (k D:IntKind) (x y:Nat):(Builtin.max_ E t #[.int k (x:Int),.int D (y:Int)]).run P w = .ok (.int k ((max x y:Nat):Int)) w:=by
 rw [run_max_int2]
 congr 2
 split <;> omega
theorem g_E (u v:Value) (a b:List Int) (ha:RI a) (hb:RI b) (w:World) (hu:Nums .i64 w u a) (hv:Nums .i64 w v b):
  Calls Tryz.prog 120 #[u,v] w fun e w'=>∃ v',e = .returned (.tuple #[v',.int .i64 (b_x a b)])/\OwnK .i64 3 w' w.heap.size v' (b_W a b)/\Below w.heap.size w w':=by
 have ca:=b_3 u a ha w hu;have cb:=b_3 v b hb w hv;have HU:Hid (Nums .i64 w u a):=hu;have HV:Hid (Nums .i64 w v b):=hv;obtain ⟨p,n,c,rfl,HA⟩:=hu.lst;obtain ⟨p2,n2,c2,rfl,HB⟩:=hv.lst;clear hu hv ha hb;by_cases R:goodN (ntl a)
 ·rw [decide_eq_true R] at ca;by_cases V:goodN (ntl b)
  ·rw [decide_eq_true V] at cb;obtain ⟨a,ha,rfl⟩:=b_n R;obtain ⟨b,hb,rfl⟩:=b_n V;have ab:a.length=n:=by rw [<- a_v a];exact HA.out.1
   have aa:b.length=n2:=by rw [<- a_v b];exact HB.out.1
   have ao:n<=4:=by rw [<- ab];exact ha.1
   have am:n2<=4:=by rw [<- aa];exact hb.1
   obtain ⟨m,em⟩:∃ m,max n n2=m:=⟨_,rfl⟩
   have hm:m<=4:=by omega
   have an:(m:Int)<=4:=by omega
   have O:Hid (goodN a/\goodN b/\max a.length b.length=m):=⟨ha,hb,by rw [ab,aa];exact em⟩
   obtain ⟨L,eL⟩:∃ L,itl (joinN a b)=L:=⟨_,rfl⟩
   have HL:Hid (itl (joinN a b)=L/\L.length=m):=⟨eL,by rw [<- eL,a_v,a_6];exact O.out.2.2⟩
   obtain ⟨X,eX⟩:∃ X,b_W (itl a) (itl b)=X:=⟨_,rfl⟩
   obtain ⟨E,eE⟩:∃ E,b_x (itl a) (itl b)=E:=⟨_,rfl⟩
   have HX:Hid (b_W (itl a) (itl b)=X/\b_x (itl a) (itl b)=E):=⟨eX,eE⟩
   have Hm:Hid (max n n2=m):=em;rw [eX,eE];clear R V ha hb ab aa eL eX eE HA HB;have ac:∀ (ts:Array TypeId) (t:TypeId) (w:World),(Builtin.max_ ts t #[.int .i64 (n:Int),.int .i64 (n2:Int)]).run Tryz.prog w = .ok (.int .i64 (m:Int)) w:=fun ts t w=>by rw [i_w,em]
   clear em;go_enter Tryz.func120,Tryz.ntmps120;go_wp2_with fail
   refine ca.mono ?_;rintro e D ⟨rfl,rfl⟩;clear ca;go_wp2_with fail
   refine cb.mono ?_;rintro e D ⟨rfl,rfl⟩;clear cb;go_wp2_with (at_make;refine a_y i_r (by decide) _ rfl (.tmp 22) (.tmp 22) rfl .i64 .i64 m m m rfl rfl rfl rfl (by omega) D.heap.size D (Nat.le_refl _) (Below.refl _ _) ?_;intro w1 HO B0 B1;clear B0)
   clear ac;rw [<- HL.out.2,<- h_F L,HL.out.2] at HO
   go_loopg [7] m (fun gg v wr=>∃ (k:Nat),k<=m/\gg=m - k/\v = .int .i64 ((k:Int)+1)/\Hid (∀ i,1<=i->i<=k->j_o (a_T a i) (a_T b i))/\Hid (OwnK .i64 3 wr D.heap.size (.slice (some ⟨D.heap.size,0,none⟩) m m) (k_u L k))/\Hid (Below D.heap.size D wr))
   case atStart=>exact ⟨0,by omega,by omega,by first|rfl|simp,fun i h1 h2=>by omega,HO,B1⟩
   case round=>
    obtain ⟨k,hk,hg,rfl,Hx,HR,hB⟩:=hrel;by_cases ai:k < m
    ·have af:(k:Int)+1<=(m:Int):=by omega
     have c1:=j_s _ a O.out.1 (k+1) ⟨by omega,by omega⟩ wr (HU.out.up hB.out);have c2:=j_s _ b O.out.2.1 (k+1) ⟨by omega,by omega⟩ wr (HV.out.up hB.out);rw [show ((k+1:Nat):Int)=(k:Int)+1 by omega] at c1 c2;have s1:=e_U O.out.1 (k+1);have s2:=e_U O.out.2.1 (k+1);have M:=p_X (a_T a (k+1)) (a_T b (k+1));have J:=p_Y (a_T a (k+1)) (a_T b (k+1)) s1.1 s2.1;obtain ⟨x,ex⟩:∃ x:Int,((a_T a (k+1):Nat):Int)=x:=⟨_,rfl⟩
     obtain ⟨y,ey⟩:∃ y:Int,((a_T b (k+1):Nat):Int)=y:=⟨_,rfl⟩
     rw [ex] at c1 M J;rw [ey] at c2 M J;have c3:=fun W=>k_w x y W;obtain ⟨j,hj⟩:∃ j,j=m - 1 - k:=⟨_,rfl⟩
     have ad:j < m:=by omega
     have ah:(m:Int) - ((k:Int)+1)=(j:Int):=by omega
     have aj:(j:Int) < (m:Int):=by omega
     have Hj:Hid (j+k+1=m):=by show _=_;omega
     clear hj ex ey s1 s2;by_cases hf:j_o (a_T a (k+1)) (a_T b (k+1))
     ·rw [decide_eq_true hf] at M;have J:=J hf;rw [M] at c3;obtain ⟨z,ez⟩:∃ z,jnd x y=z:=⟨_,rfl⟩
      rw [ez] at c3 J
      have HZ:Hid (z=L.getD j 0):=by
       show _=_;rw [J,<- HL.out.1,p_W a b j k (by rw [O.out.2.2];exact Hj.out)]
      have Hn:Hid (∀ i,1<=i->i<=k+1->j_o (a_T a i) (a_T b i)):=fun i h1 h2=>by
       rcases Nat.lt_or_ge k i with h|h
       ·rw [show i=k+1 by omega];exact hf
       ·exact Hx.out i h1 h
      obtain ⟨ag,ak⟩:=HR.out.cell (by rw [e_T];exact HL.out.2) j ad
      have H2:Hid (OwnK .i64 3 (wr.setCell ⟨D.heap.size,j,none⟩ (.int .i64 z)) D.heap.size (.slice (some ⟨D.heap.size,0,none⟩) m m) (k_u L (k+1))):=by
       have:=HR.out.store (by rw [e_T];exact HL.out.2) j z;rw [HZ.out,j_r L j k (by rw [HL.out.2];exact Hj.out)] at this;rw [HZ.out];exact this
      have ae:Hid (Below D.heap.size D (wr.setCell ⟨D.heap.size,j,none⟩ (.int .i64 z))):=hB.out.setCell (p:=⟨D.heap.size,j,none⟩) (Nat.le_refl _) _;clear hf M J ez Hx;go_wp2_with fail
      refine c1.mono ?_;rintro e w5 ⟨rfl,rfl⟩;go_wp2_with fail
      refine c2.mono ?_;rintro e w5 ⟨rfl,rfl⟩;go_wp2_with fail
      refine (c3 _).mono ?_;rintro e w5 ⟨rfl,rfl⟩;go_wp2;go_roundg (m - (k+1))
      case measure=>omega
      case rel=>exact ⟨k+1,by omega,rfl,by first|rfl|simp,Hn,H2,ae⟩
     ·rw [decide_eq_false hf] at M;rw [M] at c3;have hX:=i_v O.out.1 O.out.2.1 (fun h=>hf (h (k+1) (by omega) (by rw [O.out.2.2];omega)));rw [HX.out.1,HX.out.2] at hX;obtain ⟨rfl,rfl⟩:=hX;clear hf M J Hx;go_wp2_with fail
      refine c1.mono ?_;rintro e w5 ⟨rfl,rfl⟩;go_wp2_with fail
      refine c2.mono ?_;rintro e w5 ⟨rfl,rfl⟩;go_wp2_with fail
      refine (c3 _).mono ?_;rintro e w5 ⟨rfl,rfl⟩;go_wp2;go_ret2;exact ⟨_,rfl,OwnK.nil _ _ _ _,hB.out⟩
    ·obtain rfl:k=m:=by omega
     have I:=HR.out;rw [<- HL.out.2,h_G,HL.out.2] at I;have HF:Hid (OwnK .i64 3 wr D.heap.size (.slice (some ⟨D.heap.size,0,none⟩) k k) L/\Below D.heap.size D wr):=⟨I,hB.out⟩
     have H:b_2 a b:=fun i h1 h2=>Hx.out i h1 (by rw [O.out.2.2] at h2;exact h2);have cg:=b_3 _ L (by rw [<- HL.out.1];exact p_0 O.out.1 O.out.2.1) wr I.nums;rw [<- HL.out.1,a_p] at cg;by_cases U:goodN (joinN a b)
     ·rw [decide_eq_true U] at cg;have hX:=b_u O.out.1 O.out.2.1 H U;rw [HX.out.1,HX.out.2,HL.out.1] at hX;obtain ⟨rfl,rfl⟩:=hX;clear I H U Hx;go_wp2_with fail
      refine cg.mono ?_;rintro e w5 ⟨rfl,rfl⟩;go_wp2;go_ret2;exact ⟨_,rfl,HF.out⟩
     ·rw [decide_eq_false U] at cg;have hX:=k_v O.out.1 O.out.2.1 H U;rw [HX.out.1,HX.out.2] at hX;obtain ⟨rfl,rfl⟩:=hX;clear I H U Hx;go_wp2_with fail
      refine cg.mono ?_;rintro e w5 ⟨rfl,rfl⟩;go_wp2;go_ret2;exact ⟨_,rfl,OwnK.nil _ _ _ _,HF.out.2⟩
  ·rw [decide_eq_false V] at cb;obtain ⟨e1,e2⟩:=h_H (a:=a) (b:=b) fun h=>V h.2;rw [e1,e2];clear e1 e2 R V;go_enter Tryz.func120,Tryz.ntmps120;go_wp2_with fail
   refine ca.mono ?_;rintro e D ⟨rfl,rfl⟩;go_wp2_with fail
   refine cb.mono ?_;rintro e D ⟨rfl,rfl⟩;go_wp2;go_ret2;exact ⟨_,rfl,OwnK.nil _ _ _ _,Below.refl _ _⟩
 ·rw [decide_eq_false R] at ca;obtain ⟨e1,e2⟩:=h_H (a:=a) (b:=b) fun h=>R h.1;rw [e1,e2];clear e1 e2 R;go_enter Tryz.func120,Tryz.ntmps120;go_wp2_with fail
  refine ca.mono ?_;rintro e D ⟨rfl,rfl⟩;go_wp2;go_ret2;exact ⟨_,rfl,OwnK.nil _ _ _ _,Below.refl _ _⟩
theorem a_m {w D:World} {B:Nat} (h:Below B w D) (n:Nat):Below B w (D.drewN n):=h.trans ⟨rfl,rfl,rfl,Nat.le_refl _,fun _ _=>rfl⟩
theorem a_b (W:World) (o:Obj):Below W.heap.size W (W.alloc o):=(Below.refl _ _).alloc (Nat.le_refl _) _
theorem a_c {w D E:World} (h:Below w.heap.size w D) (H:Below D.heap.size D E):Below w.heap.size w E:=h.trans (H.mono h.size)
theorem g_f {w D:World} (h:Below w.heap.size w D) (o:Obj):Below w.heap.size w (D.alloc o):=h.trans ((a_b D o).mono h.size)
theorem z0:((f_e (ntl []):Nat):Int)=1:=by decide +kernel
theorem g0:decide (goodN (ntl []))=true:=by decide +kernel
theorem f_i {k:IntKind} {e:TypeId} (W:World) (o:Obj) (l:List Int) (n:Nat) (D:Nat×Nat) (h:l.length=n):Nums k ((W.alloc o).alloc (.cells (a_4 k l).toArray e D)) (.slice (some ⟨W.heap.size+1,0,none⟩) n n) l:=by
 have:=a_5 (k:=k) (e:=e) (W.alloc o) l n D h;rw [show (W.alloc o).heap.size=W.heap.size+1 from Array.size_push _] at this;exact this
/-- An order names each of n places once. -/
def d_M (n:Nat) (o:List Nat):Prop:=o.length=n/\(∀ x,x∈o->x < n)/\∀ j,j < n->∃ k,k < n/\o.getD k 0=j
/-- The sides in that order. -/
def c_d (d o:List Nat):List Nat:=o.map fun j=>d.getD j 0
theorem b_E (d o:List Nat):(c_d d o).length=o.length:=by simp [c_d]
theorem f_j (d o:List Nat) (k:Nat) (h:k < o.length):(c_d d o).getD k 0=d.getD (o.getD k 0) 0:=by
 rw [a_r _ k 0 (by rw [b_E];exact h),a_r o k 0 h];simp [c_d]
def p_1 (o p:List Nat) (n:Nat):Nat->List Nat
 | 0=>List.replicate n 0
 | k+1=>(p_1 o p n k).set (o.getD k 0) (p.getD k 0)
theorem g_F (o p:List Nat) (n:Nat):∀ k,(p_1 o p n k).length=n
 | 0=>by simp [p_1]
 | k+1=>by rw [p_1,List.length_set,g_F o p n k]
theorem g_G (l:List Nat) (j i x:Nat) (h:i < l.length):(l.set j x).getD i 0=if j=i then x else l.getD i 0:=by
 rw [List.getD_eq_getElem?_getD,List.getElem?_set,List.getD_eq_getElem?_getD];by_cases e:j=i
 ·subst e;rw [if_pos rfl,if_pos rfl,if_pos h];rfl
 ·rw [if_neg e,if_neg e]
theorem f_k {n:Nat} {o:List Nat} (h:d_M n o):∀ i k,i < n->k < n->o.getD i 0=o.getD k 0->i=k:=by
 -- as many names as places: none is named twice
 have af:∀ (m:Nat) (f:Nat->Nat),(∀ j,j < m->∃ k,k < m/\f k=j)->(∀ k,k < m->f k < m)->∀ i k,i < m->k < m->f i=f k->i=k:=by
  intro m
  induction m with
  | zero=>intro f _ _ i k V;omega
  | succ m ih=>
   intro f R hb i k V M e
   -- the place that is named m is changed with the last one
   obtain ⟨t,ht,ft⟩:=R m (by omega)
   let g:Nat->Nat:=fun x=>if x=t then f m else f x
   have aj:∀ x,x < m->g x < m∨(g x=m/\False)∨g x=m:=by
    intro x O;by_cases E:x=t
    ·have:g x=f m:=if_pos E;have:=hb m (by omega);omega
    ·have:g x=f x:=if_neg E;have:=hb x (by omega);omega
   by_cases hu:∃ x,x < m+1/\x≠t/\f x=m
   ·-- m is named twice: then one below m is not named at all
    exfalso;obtain ⟨x,O,E,fx⟩:=hu
    -- strike x: g' over the others still reaches all
    let s:Nat->Nat:=fun y=>if y < x then f y else f (y+1)
    have:∀ j,j < m->∃ k,k < m/\s k=j:=by
     intro j hj;obtain ⟨k,M,fk⟩:=R j (by omega)
     have ai:k≠x:=by
      intro e;subst e;omega
     by_cases H:k < x
     ·exact ⟨k,by omega,by show (if k < x then f k else f (k+1))=j;rw [if_pos H];exact fk⟩
     ·exact ⟨k - 1,by omega,by show (if k - 1 < x then f (k - 1) else f (k - 1+1))=j;rw [if_neg (by omega),show k - 1+1=k by omega];exact fk⟩
    -- t is left among them and is named m: so m numbers are reached by m - 1 places
    have ac:∀ (m:Nat) (s:Nat->Nat),(∀ j,j < m->∃ k,k < m/\s k=j)->∀ y,y < m->s y < m:=by
     intro m
     induction m with
     | zero=>intro s _ y hy;omega
     | succ m ih=>
      intro s R y hy;rcases Nat.lt_or_ge (s y) (m+1) with h|h
      ·exact h
      ·exfalso;obtain ⟨t,ht,st⟩:=R m (by omega);have ah:t≠y:=by intro e;subst e;omega
       -- strike t: the others reach all below m;y is among them
       have L:=ih (fun z=>if z < t then s z else s (z+1)) (by
        intro j hj;obtain ⟨k,M,sk⟩:=R j (by omega);have D:k≠t:=by intro e;subst e;omega
        by_cases H:k < t
        ·exact ⟨k,by omega,by show (if k < t then s k else s (k+1))=j;rw [if_pos H];exact sk⟩
        ·exact ⟨k - 1,by omega,by show (if k - 1 < t then s (k - 1) else s (k - 1+1))=j;rw [if_neg (by omega),show k - 1+1=k by omega];exact sk⟩)
       by_cases H:y < t
       ·have:=L y (by omega);rw [if_pos H] at this;omega
       ·have:=L (y - 1) (by omega);rw [if_neg (by omega),show y - 1+1=y by omega] at this;omega
    have h3:=ac m s this;by_cases H:t < x
    ·have:=h3 t (by omega);have e2:s t=f t:=if_pos H;omega
    ·have:=h3 (t - 1) (by omega);have e2:s (t - 1)=f (t - 1+1):=if_neg (by omega);rw [show t - 1+1=t by omega] at e2;omega
   ·have J:∀ x,x < m+1->x≠t->f x < m:=fun x O E=>by
     have h1:=hb x O;have L:f x≠m:=fun e=>hu ⟨x,O,E,e⟩;omega
    have ae:∀ j,j < m->∃ k,k < m/\g k=j:=by
     intro j hj;obtain ⟨k,M,fk⟩:=R j (by omega);have D:k≠t:=by intro e;subst e;omega
     by_cases ad:k=m
     ·subst ad;exact ⟨t,by omega,by show (if t=t then f k else f t)=j;rw [if_pos rfl];exact fk⟩
     ·exact ⟨k,by omega,by show (if k=t then f m else f k)=j;rw [if_neg D];exact fk⟩
    have ag:∀ k,k < m->g k < m:=by
     intro k M;show (if k=t then f m else f k) < m;by_cases D:k=t
     ·rw [if_pos D];subst D;exact J m (by omega) (by omega)
     ·rw [if_neg D];exact J k (by omega) D
    have ab:=ih g ae ag
    -- back to f
    have U:∀ x,x < m+1->x≠t->∃ y,y < m/\g y=f x/\(y=if x=m then t else x):=by
     intro x O E;by_cases aa:x=m
     ·subst aa;exact ⟨t,by omega,by show (if t=t then f x else f t)=f x;rw [if_pos rfl],by rw [if_pos rfl]⟩
     ·exact ⟨x,by omega,by show (if x=t then f m else f x)=f x;rw [if_neg E],by rw [if_neg aa]⟩
    by_cases I:i=t
    ·by_cases D:k=t
     ·rw [I,D]
     ·have:=J k M D;rw [I,ft] at e;omega
    ·by_cases D:k=t
     ·have:=J i V I;rw [D,ft] at e;omega
     ·obtain ⟨y,hy,gy,ey⟩:=U i V I;obtain ⟨z,hz,gz,ez⟩:=U k M D;have:=ab y z hy hz (by rw [gy,gz];exact e);subst this;rw [ey] at ez;by_cases h1:i=m
      ·by_cases L:k=m
       ·omega
       ·rw [if_pos h1,if_neg L] at ez;omega
      ·by_cases L:k=m
       ·rw [if_neg h1,if_pos L] at ez;omega
       ·rw [if_neg h1,if_neg L] at ez;exact ez
 intro i k V M e
 exact af n (fun x=>o.getD x 0) h.2.2 (fun x O=>by
  show o.getD x 0 < n;rw [a_r o x 0 (by rw [h.1];exact O)];exact h.2.1 _ (List.getElem_mem _)) i k V M e
/-- As many places, none named twice: each is named. -/
theorem g_H:∀ (m:Nat) (f:Nat->Nat),(∀ k,k < m->f k < m)->(∀ i k,i < m->k < m->f i=f k->i=k)->∀ j,j < m->∃ k,k < m/\f k=j:=by
 intro m
 induction m with
 | zero=>intro f _ _ j hj;omega
 | succ m ih=>
  intro f hb H j hj
  have hm:∃ k,k < m+1/\f k=m:=by
   rcases Nat.lt_or_ge (f m) m with U|U
   ·-- else the first m would be named by the first m alone
    by_cases I:∃ k,k < m+1/\f k=m
    ·exact I
    ·exfalso
     obtain ⟨k,O,e⟩:=ih f (fun k O=>by
      have V:=hb k (by omega);have R:f k≠m:=fun e=>I ⟨k,by omega,e⟩;omega) (fun i k M J e=>H i k (by omega) (by omega) e) (f m) U
     have:=H k m (by omega) (by omega) e;omega
   ·exact ⟨m,by omega,by have:=hb m (by omega);omega⟩
  obtain ⟨t,L,ft⟩:=hm;by_cases aa:j=m
  ·exact ⟨t,L,by omega⟩
  ·have hg:=ih (fun k=>if k=t then f m else f k) (fun k O=>by
    show (if k=t then f m else f k) < m;by_cases D:k=t
    ·rw [if_pos D];have V:=hb m (by omega)
     have R:f m≠m:=fun e=>by
      have:=H m t (by omega) L (by omega);omega
     omega
    ·rw [if_neg D];have V:=hb k (by omega);have R:f k≠m:=fun e=>D (H k t (by omega) L (by omega));omega) (fun i k M J e=>by
    have e:(if i=t then f m else f i)=(if k=t then f m else f k):=e;by_cases E:i=t
    ·by_cases D:k=t
     ·omega
     ·rw [if_pos E,if_neg D] at e;have:=H m k (by omega) (by omega) e;omega
    ·by_cases D:k=t
     ·rw [if_neg E,if_pos D] at e;have:=H i m (by omega) (by omega) e;omega
     ·rw [if_neg E,if_neg D] at e;exact H i k (by omega) (by omega) e) j (by omega)
   obtain ⟨k,O,e⟩:=hg;have e:(if k=t then f m else f k)=j:=e;by_cases D:k=t
   ·rw [if_pos D] at e;exact ⟨m,by omega,e⟩
   ·rw [if_neg D] at e;exact ⟨k,by omega,e⟩
theorem n_P {n:Nat} {o:List Nat} (D:o.length=n) (hb:∀ k,k < n->o.getD k 0 < n) (E:∀ i k,i < n->k < n->o.getD i 0=o.getD k 0->i=k):d_M n o:=by
 refine ⟨D,fun x H=>?_,g_H n (fun k=>o.getD k 0) hb E⟩;obtain ⟨k,I,rfl⟩:=List.mem_iff_getElem.1 H;have:=hb k (by omega);rw [a_r o k 0 I] at this;exact this
theorem l_x {n:Nat} {o:List Nat} (h:d_M n o) (p:List Nat):∀ k,k<=n->∀ i,i < k->(p_1 o p n k).getD (o.getD i 0) 0=p.getD i 0
 | 0,_,i,hi=>by omega
 | k+1,hk,i,hi=>by
  have D:∀ x,x < n->o.getD x 0 < n:=fun x H=>by
   rw [a_r o x 0 (by rw [h.1];exact H)];exact h.2.1 _ (List.getElem_mem _)
  rw [p_1,g_G _ _ _ _ (by rw [g_F];exact D i (by omega))];by_cases e:o.getD k 0=o.getD i 0
  ·rw [if_pos e,f_k h k i (by omega) (by omega) e]
  ·rw [if_neg e]
   exact l_x h p k (by omega) i (by
    have:i≠k:=fun E=>e (by rw [E]);omega)
def unp (o p:List Nat) (n:Nat):List Nat:=p_1 o p n n
theorem l_y (o p:List Nat) (n:Nat):(unp o p n).length=n:=g_F o p n n
theorem p_i {n:Nat} {o:List Nat} (h:d_M n o) (p:List Nat) (i:Nat) (D:i < n):(unp o p n).getD (o.getD i 0) 0=p.getD i 0:=l_x h p n (Nat.le_refl _) i D
theorem k_x {d o p:List Nat} (h:d_M d.length o) (J:d_2 (c_d d o) p):d_2 d (unp o p d.length):=by
 refine h_y (l_y _ _ _) fun j x y L O=>?_;have M:j < d.length:=(List.getElem?_eq_some_iff.1 L).1;obtain ⟨k,D,e⟩:=h.2.2 j M;have I:=p_i h p k D;rw [e,List.getD_eq_getElem?_getD,O] at I;have H:=f_j d o k (by rw [h.1];exact D);rw [e,List.getD_eq_getElem?_getD (l:=d),L] at H;have E:p.length=o.length:=by rw [g_a J,b_E]
 have R:=g_b J k ((c_d d o).getD k 0) (p.getD k 0) (by rw [List.getElem?_eq_getElem (by rw [b_E,h.1];exact D),a_r _ k 0 (by rw [b_E,h.1];exact D)]) (by rw [List.getElem?_eq_getElem (by rw [E,h.1];exact D),a_r _ k 0 (by rw [E,h.1];exact D)]);have I:y=p.getD k 0:=I;have H:(c_d d o).getD k 0=x:=H;omega
/-- The product of m numbers, place by place. -/
def c_J (f:Nat->Nat):Nat->Nat
 | 0=>1
 | m+1=>c_J f m*f m
theorem c_e {f g:Nat->Nat}:∀ m,(∀ k,k < m->f k=g k)->c_J f m=c_J g m
 | 0,_=>rfl
 | m+1,h=>by rw [c_J,c_J,c_e m fun k D=>h k (by omega),h m (by omega)]
theorem h_I (f:Nat->Nat) (t x:Nat):∀ m,t < m->c_J f m*x=c_J (fun k=>if k=t then x else f k) m*f t
 | 0,h=>by omega
 | m+1,h=>by
  rw [c_J,c_J];by_cases e:t=m
  ·subst e;rw [if_pos rfl,c_e (g:=fun k=>if k=t then x else f k) t fun k D=>by rw [if_neg (by omega)]];rw [Nat.mul_assoc,Nat.mul_assoc,Nat.mul_comm (f t)]
  ·rw [if_neg (by omega),Nat.mul_assoc,Nat.mul_comm (f m),<- Nat.mul_assoc,h_I f t x m (by omega),Nat.mul_assoc,Nat.mul_assoc,Nat.mul_comm (f t)]
theorem k_y (d:Nat->Nat):∀ (m:Nat) (f:Nat->Nat),(∀ k,k < m->f k < m)->(∀ i k,i < m->k < m->f i=f k->i=k)->c_J (fun k=>d (f k)) m=c_J d m:=by
 intro m
 induction m with
 | zero=>intro f _ _;rfl
 | succ m ih=>
  intro f hb I;obtain ⟨t,ht,U⟩:=g_H (m+1) f hb I m (by omega)
  have H:∀ k,k < m+1->k≠t->f k < m:=fun k J D=>by
   have V:=hb k J;have R:f k≠m:=fun e=>D (I k t J ht (by omega));omega
  by_cases M:t=m
  ·subst M;rw [c_J,c_J,U,ih f (fun k J=>H k (by omega) (by omega)) fun i k O L e=>I i k (by omega) (by omega) e]
  ·have V:=h_I (fun k=>d (f k)) t (d (f m)) m (by omega);rw [c_J,c_J,V];show c_J (fun k=>if k=t then d (f m) else d (f k)) m*d (f t)=c_J d m*d m;rw [U]
   congr 1
   have R:=ih (fun k=>if k=t then f m else f k) (fun k J=>by
    show (if k=t then f m else f k) < m;by_cases D:k=t
    ·rw [if_pos D];exact H m (by omega) (by omega)
    ·rw [if_neg D];exact H k (by omega) D) (fun i k O L e=>by
    have e:(if i=t then f m else f i)=(if k=t then f m else f k):=e;by_cases E:i=t
    ·by_cases D:k=t
     ·omega
     ·rw [if_pos E,if_neg D] at e;have:=I m k (by omega) (by omega) e;omega
    ·by_cases D:k=t
     ·rw [if_neg E,if_pos D] at e;have:=I i m (by omega) (by omega) e;omega
     ·rw [if_neg E,if_neg D] at e;exact I i k (by omega) (by omega) e)
   rw [<- R]
   exact c_e m fun k J=>by
    by_cases D:k=t
    ·rw [if_pos D,if_pos D]
    ·rw [if_neg D,if_neg D]
theorem l_z:∀ (m:Nat) (d:List Nat),d.length=m->a_e d=c_J (fun k=>d.getD k 0) m:=by
 intro m
 induction m with
 | zero=>
  intro d h;have:d = []:=List.eq_nil_of_length_eq_zero h;subst this;rfl
 | succ m ih=>
  intro d h
  have e:d=d.take m++[d.getD m 0]:=by
   have E:=List.take_succ_eq_append_getElem (l:=d) (i:=m) (by omega);have H:d.take (m+1)=d:=List.take_of_length_le (by omega);rw [H] at E;rw [a_r d m 0 (by omega)];exact E
  have I:a_e d=a_e (d.take m)*d.getD m 0:=by
   have D:=congrArg a_e e;rw [a_D] at D;rw [D];simp [a_e]
  rw [I,c_J,ih (d.take m) (by simp;omega)]
  congr 1
  refine c_e m fun k J=>?_;rw [List.getD_eq_getElem?_getD,List.getElem?_take_of_lt J,List.getD_eq_getElem?_getD]
/-- The sides in another order come to as many numbers. -/
theorem d_s {d o:List Nat} (h:d_M d.length o):a_e (c_d d o)=a_e d:=by
 have D:∀ x,x < d.length->o.getD x 0 < d.length:=fun x E=>by
  rw [a_r o x 0 (by rw [h.1];exact E)];exact h.2.1 _ (List.getElem_mem _)
 rw [l_z d.length (c_d d o) (by rw [b_E,h.1]),l_z d.length d rfl,<- k_y (fun k=>d.getD k 0) d.length (fun k=>o.getD k 0) D (f_k h)];exact c_e _ fun k H=>f_j d o k (by rw [h.1];exact H)
theorem f_l {d o:List Nat} (D:goodN d) (h:d_M d.length o):goodN (c_d d o):=by
 refine ⟨by rw [b_E,h.1];exact D.1,fun x H=>?_,by rw [d_s h];exact D.2.2⟩;obtain ⟨j,E,rfl⟩:=List.mem_map.1 H;have:=h.2.1 j E;exact (D.at j this).1
/-- Where the turned tensor's i-th number stood. -/
def f_m (d o:List Nat) (i:Nat):Nat:=c_y d (unp o (a_S (c_d d o) i) d.length)
theorem n_Q {d o:List Nat} (D:goodN d) (h:d_M d.length o) (i:Nat) (E:i < a_e d):f_m d o i < a_e d:=
 l_j (k_x h (c_n _ i (f_l D h).2.1 (by rw [d_s h];exact E)))
/-- A fold: each number is added where it is spread from, in order. -/
def c_8 (add:Int->Int->Int) (f:Nat->Nat) (v:Nat->Int) (S:Nat):Nat->List Int
 | 0=>List.replicate S 0
 | k+1=>(c_8 add f v S k).set (f k) (add ((c_8 add f v S k).getD (f k) 0) (v k))
theorem f_n (D:Int->Int->Int) (f:Nat->Nat) (v:Nat->Int) (S:Nat):∀ k,(c_8 D f v S k).length=S
 | 0=>by simp [c_8]
 | k+1=>by rw [c_8,List.length_set,f_n D f v S k]
theorem l_A {d:List Nat} (D:goodN d) (i:Nat) (E:i < a_e d):b_U d d i=i:=by
 unfold b_U;rw [Nat.sub_self,List.drop_zero,f_d (c_n d i D.2.1 E),d_q d i D.2.1 E]
theorem h_J (d:List Nat):b_2 d d/\joinN d d=d:=by
 constructor
 ·intro i _ _;exact .inl rfl
 ·refine e_S (by rw [a_6,Nat.max_self]) fun i D _=>?_;rw [b_q _ _ _ D,Nat.max_self]
theorem g_I {α:Type} (l:List α) (k:Nat) (d:α) (h:l.length<=k):l.getD k d=d:=by
 rw [List.getD_eq_getElem?_getD,List.getElem?_eq_none h];rfl
theorem k_z {α:Type} (a b:List α) (k:Nat) (d:α) (h:k < a.length):(a++b).getD k d=a.getD k d:=by
 rw [List.getD_eq_getElem?_getD,List.getElem?_append_left h,List.getD_eq_getElem?_getD]
theorem k_A {α:Type} (a b:List α) (k:Nat) (d:α) (h:a.length<=k):(a++b).getD k d=b.getD (k - a.length) d:=by
 rw [List.getD_eq_getElem?_getD,List.getElem?_append_right h,List.getD_eq_getElem?_getD]
theorem a_J {α:Type} (f:Nat->α) (n k:Nat) (d:α) (h:k < n):((List.range n).map f).getD k d=f k:=by
 rw [List.getD_eq_getElem?_getD,List.getElem?_map,List.getElem?_range h];rfl
/-- A row in the making, from its beginning on. -/
def b_I (L:List Int) (k:Nat):List Int:=L.take k++List.replicate (L.length - k) 0
theorem a_z (L:List Int) (k:Nat):(b_I L k).length=L.length:=by
 unfold b_I;rw [List.length_append,List.length_take,List.length_replicate];omega
theorem a_1 (L:List Int):b_I L 0=List.replicate L.length 0:=by simp [b_I]
theorem b_h (L:List Int):b_I L L.length=L:=by simp [b_I]
theorem b_r (L:List Int) (k:Nat) (h:k < L.length):(b_I L k).set k (L.getD k 0)=b_I L (k+1):=by
 unfold b_I;refine List.ext_getElem (by simp;omega) fun i E D=>?_;rw [List.getElem_set];by_cases e:k=i
 ·subst e;rw [if_pos rfl,List.getElem_append_left (by simp;omega),List.getElem_take,a_r L k 0 h]
 ·rw [if_neg e];by_cases H:i < k
  ·rw [List.getElem_append_left (by simp;omega),List.getElem_append_left (by simp;omega),List.getElem_take,List.getElem_take]
  ·rw [List.getElem_append_right (by simp;omega),List.getElem_append_right (by simp;omega),List.getElem_replicate,List.getElem_replicate]
/-- The row behind k sides. -/
def h_u (d s:List Nat):Nat->List Nat
 | 0=>[0]
 | k+1=>(h_u d s k).flatMap fun a=>(List.range (d.getD k 0)).map fun n=>a+n*s.getD k 0
theorem g_J (m:Nat) (g:Nat->Nat->Nat):∀ l:List Nat,(l.flatMap fun a=>(List.range m).map (g a)).length=l.length*m
 | []=>by simp
 | a :: l=>by rw [List.flatMap_cons,List.length_append,g_J m g l];simp [Nat.add_mul,Nat.add_comm]
theorem j_u (m:Nat) (E:0 < m) (g:Nat->Nat->Nat):∀ (l:List Nat) (i:Nat),i < l.length*m->(l.flatMap fun a=>(List.range m).map (g a)).getD i 0=g (l.getD (i / m) 0) (i % m)
 | [],i,h=>by simp at h
 | a :: l,i,h=>by
  rw [List.flatMap_cons];by_cases D:i < m
  ·rw [k_z _ _ _ _ (by simp;exact D),a_J _ _ _ _ D,Nat.div_eq_of_lt D,Nat.mod_eq_of_lt D];rfl
  ·rw [k_A _ _ _ _ (by simp;omega)];have H:((List.range m).map (g a)).length=m:=by simp
   rw [H,j_u m E g l (i - m) (by rw [List.length_cons,Nat.add_mul] at h;omega)]
   have I:i / m=(i - m) / m+1:=by
    rw [Nat.div_eq_sub_div E (by omega)]
   have J:i % m=(i - m) % m:=Nat.mod_eq_sub_mod (by omega);rw [I,J];rfl
theorem e_V (d s:List Nat):∀ k,k<=d.length->(h_u d s k).length=a_e (d.take k)
 | 0,_=>by simp [h_u,a_e]
 | k+1,h=>by
  rw [h_u,g_J,e_V d s k (by omega),b_D d k (by omega),a_r d k 0 (by omega)]
theorem l_B {d s:List Nat} (E:∀ x,x∈d->1<=x) (a:Nat) (H:a < a_e d):∀ k,k<=d.length->(h_u d s k).getD (a / a_e (d.drop k)) 0=h_t (a_S d a) s k
 | 0,_=>by
  rw [List.drop_zero,Nat.div_eq_of_lt H];rfl
 | k+1,h=>by
  have M:0 < a_e (d.drop (k+1)):=a_A fun x O=>E x (List.mem_of_mem_drop O)
  have U:0 < d.getD k 0:=by
   rw [a_r d k 0 (by omega)];exact E _ (List.getElem_mem _)
  have L:a / a_e (d.drop (k+1)) < a_e (d.take (k+1)):=by
   refine (Nat.div_lt_iff_lt_mul M).2 ?_;rw [<- a_D,List.take_append_drop];exact H
  have D:=e_V d s k (by omega);rw [h_u,j_u _ U _ _ _ (by rw [D,a_r d k 0 (by omega),<- b_D d k (by omega)];exact L)];have I:=n_H d a k (by omega);have R:=g_c d a k E H (by omega)
  have J:(a_S d a).getD k 0=a / a_e (d.drop (k+1)) % d.getD k 0:=by
   rw [List.getD_eq_getElem?_getD,R,a_r d k 0 (by omega)];rfl
  rw [h_t,<- l_B E a H k (by omega),J];rw [a_r d k 0 (by omega)];rw [I]
/-- The whole row. -/
def f_o (d s:List Nat):List Nat:=h_u d s d.length
theorem h_K (d s:List Nat):(f_o d s).length=a_e d:=by
 unfold f_o;rw [e_V d s _ (Nat.le_refl _),List.take_of_length_le (Nat.le_refl _)]
theorem j_v {d s:List Nat} (D:∀ x,x∈d->1<=x) (a:Nat) (E:a < a_e d):(f_o d s).getD a 0=h_t (a_S d a) s d.length:=by
 have:=l_B (s:=s) D a E d.length (Nat.le_refl _);rw [List.drop_of_length_le (Nat.le_refl _)] at this;simp only [a_e,Nat.div_one] at this;exact this
theorem g_g (p s q t:List Nat) (m:Nat) (D:∀ j,j < m->p.getD j 0*s.getD j 0=0):∀ n,(∀ j,j < n->p.getD (m+j) 0*s.getD (m+j) 0=q.getD j 0*t.getD j 0)->h_t p s (m+n)=h_t q t n
 | 0,_=>by
  rw [Nat.add_zero]
  have:∀ k,k<=m->h_t p s k=0:=by
   intro k
   induction k with
   | zero=>intro _;rfl
   | succ k ih=>intro h;rw [h_t,ih (by omega),D k (by omega)]
  exact this m (Nat.le_refl _)
 | n+1,h=>by
  rw [<- Nat.add_assoc,h_t,h_t,g_g p s q t m D n fun j E=>h j (by omega),h n (by omega)]
/-- The steps of a shape that is spread, after k of its sides. -/
def b_4 (d:List Nat) (n:Nat):Nat->List Nat
 | 0=>List.replicate n 0
 | k+1=>if 1 < d.getD k 0 then (b_4 d n k).set (n - d.length+k) ((a_x d).getD k 0) else b_4 d n k
theorem c_f (d:List Nat) (n:Nat):∀ k,(b_4 d n k).length=n
 | 0=>by simp [b_4]
 | k+1=>by
  rw [b_4]
  split
  ·rw [List.length_set,c_f d n k]
  ·exact c_f d n k
theorem d_P (d:List Nat) (n:Nat) (h:d.length<=n) (j:Nat) (D:j < n - d.length):∀ k,(b_4 d n k).getD j 0=0
 | 0=>by
  rw [b_4,a_r _ _ _ (by simp;omega)];simp
 | k+1=>by
  rw [b_4]
  split
  ·rw [g_G _ _ _ _ (by rw [c_f];omega),if_neg (by omega)];exact d_P d n h j D k
  ·exact d_P d n h j D k
theorem g_K (d:List Nat) (n:Nat) (h:d.length<=n) (i:Nat) (I:i < d.length):∀ k,k<=d.length->(b_4 d n k).getD (n - d.length+i) 0=if i < k/\1 < d.getD i 0 then (a_x d).getD i 0 else 0
 | 0,_=>by
  rw [b_4,a_r _ _ _ (by simp;omega),if_neg (by omega)];simp
 | k+1,hk=>by
  rw [b_4]
  split
  ·rename_i H
   rw [g_G _ _ _ _ (by rw [c_f];omega)];by_cases e:k=i
   ·subst e;rw [if_pos rfl,if_pos ⟨by omega,H⟩]
   ·rw [if_neg (by omega),g_K d n h i I k (by omega)];by_cases E:i < k
    ·by_cases D:1 < d.getD i 0
     ·rw [if_pos ⟨E,D⟩,if_pos ⟨by omega,D⟩]
     ·rw [if_neg (fun h=>D h.2),if_neg (fun h=>D h.2)]
    ·rw [if_neg (fun h=>E h.1),if_neg (fun h=>by omega)]
  ·rename_i H
   rw [g_K d n h i I k (by omega)];by_cases D:1 < d.getD i 0
   ·by_cases E:i < k
    ·rw [if_pos ⟨E,D⟩,if_pos ⟨by omega,D⟩]
    ·rw [if_neg (fun h=>E h.1),if_neg (fun h=>by
      have:i=k:=by omega
      subst this;exact H D)]
   ·rw [if_neg (fun h=>D h.2),if_neg (fun h=>D h.2)]
def j_w (d:List Nat) (n:Nat):List Nat:=b_4 d n d.length
theorem e_s {d:List Nat} (h:goodN d) (k:Nat):(a_x d).getD k 0<=4096:=by
 rcases Nat.lt_or_ge k d.length with D|D
 ·rw [List.getD_eq_getElem?_getD,c_5 d k D];exact Nat.le_trans (d_1 h.2.1 (k+1)) h.2.2
 ·rw [g_I _ _ _ (by rw [b_T];exact D)];omega
theorem g_L {d:List Nat} (D:goodN d) (n:Nat):∀ k x,x∈b_4 d n k->x<=4096
 | 0,x,hx=>by
  have:=List.eq_of_mem_replicate hx;omega
 | k+1,x,hx=>by
  rw [b_4] at hx
  split at hx
  ·rcases List.mem_or_eq_of_mem_set hx with h|h
   ·exact g_L D n k x h
   ·rw [h];exact e_s D k
  ·exact g_L D n k x hx
/-- Which number is spread to each place, in order. -/
def b_X (d big:List Nat):List Nat:=f_o big (j_w d big.length)
theorem f_p {d big:List Nat} (L:goodN d) (hb:goodN big) (hf:b_2 d big) (D:joinN d big=big) (a:Nat) (M:a < a_e big):(b_X d big).getD a 0=b_U d big a:=by
 have E:=g_D D;unfold b_X;rw [j_v hb.2.1 a M]
 have e:=g_g (a_S big a) (j_w d big.length) (qN d big a) (a_x d) (big.length - d.length) (fun j D=>by unfold j_w;rw [d_P d _ E j D,Nat.mul_zero]) d.length (fun j D=>by
  unfold j_w;rw [g_K d _ E j D _ (Nat.le_refl _)];have H:=p_Z (big:=big) E a j D;have I:=L.at j D;rw [a_O] at H;by_cases J:1 < d.getD j 0
  ·rw [if_pos ⟨D,J⟩];rw [if_neg (by omega)] at H;have:(qN d big a).getD j 0=(a_S big a).getD (big.length - d.length+j) 0:=by omega
   rw [this]
  ·rw [if_neg (fun h=>J h.2),Nat.mul_zero];rw [if_pos (by omega)] at H;have:(qN d big a).getD j 0=0:=by omega
   rw [this,Nat.zero_mul])
 rw [show big.length - d.length+d.length=big.length by omega] at e;rw [e,c_6 d _ (r_y d big a E)];rfl
theorem d_Q (d big:List Nat):(b_X d big).length=a_e big:=h_K _ _
/-- The sum of m numbers, place by place. -/
def g_M (f:Nat->Nat):Nat->Nat
 | 0=>0
 | m+1=>g_M f m+f m
theorem d_t {f g:Nat->Nat}:∀ m,(∀ k,k < m->f k=g k)->g_M f m=g_M g m
 | 0,_=>rfl
 | m+1,h=>by rw [g_M,g_M,d_t m fun k D=>h k (by omega),h m (by omega)]
theorem j_x (f:Nat->Nat) (t x:Nat):∀ m,t < m->g_M f m+x=g_M (fun k=>if k=t then x else f k) m+f t
 | 0,h=>by omega
 | m+1,h=>by
  rw [g_M,g_M];by_cases e:t=m
  ·subst e;rw [if_pos rfl,d_t (g:=fun k=>if k=t then x else f k) t fun k D=>by rw [if_neg (by omega)]];omega
  ·rw [if_neg (by omega)];have:=j_x f t x m (by omega);omega
theorem l_C (d:Nat->Nat):∀ (m:Nat) (f:Nat->Nat),(∀ k,k < m->f k < m)->(∀ i k,i < m->k < m->f i=f k->i=k)->g_M (fun k=>d (f k)) m=g_M d m:=by
 intro m
 induction m with
 | zero=>intro f _ _;rfl
 | succ m ih=>
  intro f hb I;obtain ⟨t,ht,U⟩:=g_H (m+1) f hb I m (by omega)
  have H:∀ k,k < m+1->k≠t->f k < m:=fun k J D=>by
   have V:=hb k J;have R:f k≠m:=fun e=>D (I k t J ht (by omega));omega
  by_cases M:t=m
  ·subst M;rw [g_M,g_M,U,ih f (fun k J=>H k (by omega) (by omega)) fun i k O L e=>I i k (by omega) (by omega) e]
  ·have V:=j_x (fun k=>d (f k)) t (d (f m)) m (by omega);rw [g_M,g_M,V];show g_M (fun k=>if k=t then d (f m) else d (f k)) m+d (f t)=g_M d m+d m;rw [U]
   congr 1
   have R:=ih (fun k=>if k=t then f m else f k) (fun k J=>by
    show (if k=t then f m else f k) < m;by_cases D:k=t
    ·rw [if_pos D];exact H m (by omega) (by omega)
    ·rw [if_neg D];exact H k (by omega) D) (fun i k O L e=>by
    have e:(if i=t then f m else f i)=(if k=t then f m else f k):=e;by_cases E:i=t
    ·by_cases D:k=t
     ·omega
     ·rw [if_pos E,if_neg D] at e;have:=I m k (by omega) (by omega) e;omega
    ·by_cases D:k=t
     ·rw [if_neg E,if_pos D] at e;have:=I i m (by omega) (by omega) e;omega
     ·rw [if_neg E,if_neg D] at e;exact I i k (by omega) (by omega) e)
   rw [<- R]
   exact d_t m fun k J=>by
    by_cases D:k=t
    ·rw [if_pos D,if_pos D]
    ·rw [if_neg D,if_neg D]
theorem g_N (p s:List Nat):∀ m,h_t p s m=g_M (fun k=>p.getD k 0*s.getD k 0) m
 | 0=>rfl
 | m+1=>by rw [h_t,g_M,g_N p s m]
/-- The steps along the turned sides. -/
def f_1 (d o:List Nat):List Nat:=o.map fun j=>(a_x d).getD j 0
theorem f_q (d o:List Nat):(f_1 d o).length=o.length:=by simp [f_1]
theorem h_L (d o:List Nat) (k:Nat) (h:k < o.length):(f_1 d o).getD k 0=(a_x d).getD (o.getD k 0) 0:=by
 rw [a_r _ k 0 (by rw [f_q];exact h),a_r o k 0 h];simp [f_1]
theorem n_R {d:List Nat} (D:goodN d) (o:List Nat):∀ x,x∈f_1 d o->x<=4096:=by
 intro x E;obtain ⟨j,_,rfl⟩:=List.mem_map.1 E;exact e_s D j
theorem l_D {d o:List Nat} (I:goodN d) (h:d_M d.length o) (a:Nat) (J:a < a_e d):(f_o (c_d d o) (f_1 d o)).getD a 0=f_m d o a:=by
 have M:=f_l I h;have H:(c_d d o).length=d.length:=by rw [b_E,h.1]
 rw [j_v M.2.1 a (by rw [d_s h];exact J),H];unfold f_m;rw [<- c_6 d (unp o (a_S (c_d d o) a) d.length) (l_y _ _ _),g_N,g_N]
 have D:∀ x,x < d.length->o.getD x 0 < d.length:=fun x L=>by
  rw [a_r o x 0 (by rw [h.1];exact L)];exact h.2.1 _ (List.getElem_mem _)
 rw [<- l_C (fun k=>(unp o (a_S (c_d d o) a) d.length).getD k 0*(a_x d).getD k 0) d.length (fun k=>o.getD k 0) D (f_k h)]
 exact d_t _ fun k E=>by
  show _=(unp o (a_S (c_d d o) a) d.length).getD (o.getD k 0) 0*(a_x d).getD (o.getD k 0) 0;rw [p_i h _ k E,h_L d o k (by rw [h.1];exact E)]
/-- A world that keeps all that stood in w0. -/
theorem sA_ {α:Type} (l:List α) (i:Nat) (a:α):l.toArray.setIfInBounds i a=(l.set i a).toArray:=by simp
theorem sB_ {α:Type} (x y:α) (l:List α):(x :: l).set 0 y=y :: l:=rfl
theorem sC_ {α:Type} (x y:α) (i:Nat) (l:List α):(x :: l).set (i+1) y=x :: l.set i y:=rfl
def e_t (w0 d:World):World:={ d with heap:=w0.heap++d.heap.extract w0.heap.size d.heap.size,os:=w0.os,tape:=w0.tape,output:=w0.output }
theorem a_V (D d:World):Below D.heap.size D (e_t D d):=
 ⟨rfl,rfl,rfl,by unfold e_t;simp,fun k E=>by unfold e_t;simp [Array.getElem?_append,E]⟩
theorem d_u {E W:World} (h:Below E.heap.size E W):∃ d,W=e_t E d:=by
 refine ⟨W,?_⟩;obtain ⟨D,tape,H,os,output⟩:=W;obtain ⟨O,J,M,R,I⟩:=h;simp only at O J M R I;subst O J M;unfold e_t
 congr 1
 refine Array.ext_getElem? fun i=>?_;rw [Array.getElem?_append]
 split
 ·rename_i L
  exact I i L
 ·rename_i L
  rw [Array.getElem?_extract];show _=if i - E.heap.size < min D.size D.size - E.heap.size then D[E.heap.size+(i - E.heap.size)]? else none;rw [Nat.min_self];by_cases c:i < D.size
  ·rw [if_pos (by omega),show E.heap.size+(i - E.heap.size)=i by omega]
  ·rw [if_neg (by omega)];exact Array.getElem?_eq_none (by omega)
/-- A family of worlds on top of w, which holds with each world all that keep what stood in it. -/
structure Fam (w:World) (F:World->World):Prop where
 below:∀ d,Below w.heap.size w (F d)
 on:∀ d W,Below (F d).heap.size (F d) W->∃ d',W=F d'
theorem c_9 {w W:World} (h:Below w.heap.size w W):Fam w (e_t W):=
 ⟨fun d=>h.trans ((a_V W d).mono h.size),fun d W' hb=>d_u ((a_V W d).trans (hb.mono (a_V W d).size))⟩
theorem Fam.cell {w:World} {F:World->World} (h:Fam w F) (d:World) (b o:Nat) (hb:b < w.heap.size):(F d).cell? ⟨b,o,none⟩=w.cell? ⟨b,o,none⟩:=(h.below d).cell (p:=⟨b,o,none⟩) hb
theorem Fam.frozen {w:World} {F:World->World} (h:Fam w F) (d:World) (b o:Nat) (hb:b < w.heap.size):(F d).frozen? ⟨b,o,none⟩=w.frozen? ⟨b,o,none⟩:=(h.below d).frozen (p:=⟨b,o,none⟩) hb
theorem Fam.call {w:World} {F:World->World} (hF:Fam w F) {P:Program} {f:FuncId} {args:Array Value} {d:World} {v:Value}
  (h:Calls P f args (F d) fun e E=>e = .returned v/\Below (F d).heap.size (F d) E):Calls P f args (F d) fun e D=>e = .returned v/\∃ d',D=F d':=
 h.mono fun _ _ ⟨he,hb⟩=>⟨he,hF.on d _ hb⟩
theorem Fam.same {w:World} {F:World->World} (hF:Fam w F) {P:Program} {f:FuncId} {args:Array Value} {d:World} {v:Value}
  (h:Calls P f args (F d) fun e E=>e = .returned v/\E=F d):Calls P f args (F d) fun e D=>e = .returned v/\∃ d',D=F d':=
 h.mono fun _ _ ⟨he,hb⟩=>⟨he,d,hb⟩
section
variable {P : Program} {ops : Array Oper} {Q : Exit -> Act -> World -> Prop}
theorem a_7 {a:Act} {dst:Option Tmp} {v:Value} {t:Nat} (h:dst≠some t):(a.put dst v).tmps[t]?=a.tmps[t]?:=by
 cases dst with
 | none=>rfl
 | some d=>exact Array.getElem?_setIfInBounds_ne (fun e=>h (by rw [e]))
theorem b_F {a:Act} {t:Nat} {v:Value} (h:t < a.tmps.size):(a.put (some t) v).tmps[t]?=some v:=by
 simp [Act.put,h]
theorem a_K (a:Act) (dst:Option Tmp) (v:Value):(a.put dst v).tmps.size=a.tmps.size:=by cases dst <;> simp [Act.put]
theorem b_s (a:Act) (dst:Option Tmp) (v:Value):(a.put dst v).defers=a.defers:=by cases dst <;> simp [Act.put]
theorem c_K:(∀ (a:Act) (v:Value),a.put none v=a)/\(∀ (a:Act) (t:Tmp) (v:Value),a.put (some t) v=⟨a.tmps.setIfInBounds t v,a.defers⟩)/\(∀ (l:List Value) (i:Nat) (x:Value),l.toArray.setIfInBounds i x=(l.set i x).toArray)/\(∀ (x y:Value) (l:List Value),(y :: l).set 0 x=x :: l)/\(∀ (x y:Value) (l:List Value) (i:Nat),(y :: l).set (i+1) x=y :: l.set i x):=
 ⟨fun _ _=>rfl,fun _ _ _=>rfl,fun _ _ _=>List.setIfInBounds_toArray ..,fun _ _ _=>rfl,fun _ _ _ _=>rfl⟩
theorem a_N {p q:Prop} (a:p) (b:q):Hid (p/\q):=⟨a,b⟩
theorem c_g {o:Oper} (D:∀ H b,o.op≠.select H b) {a A:Act} (h:∀ t,t∈o.looksAt ops->A.tmps[t]?=a.tmps[t]?):execOp A.eval o=execOp a.eval o:=
 execOp_congr o D fun x E=>by
  cases x with
  | tmp t=>
   have:=h t (List.mem_append_left _ (List.mem_filterMap.2 ⟨.tmp t,by simpa using E,rfl⟩));simp only [Act.eval,Array.getD_eq_getD_getElem?,this]
  | const v=>rfl
  | global g=>rfl
  | func f=>rfl
theorem b_y {o:Oper} {a A:Act} (h:∀ t,t∈o.looksAt ops->A.tmps[t]?=a.tmps[t]?):Region.wanted o (yielded ops A.tmps)=Region.wanted o (yielded ops a.tmps):=by
 unfold Region.wanted;cases E:o.guard with
 | none=>rfl
 | some gw=>
  obtain ⟨g,b⟩:=gw
  have:yielded ops A.tmps g=yielded ops a.tmps g:=by
   unfold yielded;cases D:(ops[g]?).bind (·.dst) with
   | none=>rfl
   | some d=>
    have:=h d (List.mem_append_right _ (by simp [E,D]));simp only [Option.bind_some,this]
  simp only [this]
def r_A (l:List Oper):List Tmp:=l.filterMap (·.dst)
theorem d_a {C:World->Prop} {A:Act}:∀ (l:List Oper) (a:Act),wpQuiet P ops C (fun E=>E=A) l a->
  A.tmps.size=a.tmps.size/\A.defers=a.defers/\∀ t,t∉r_A l->A.tmps[t]?=a.tmps[t]?
 | [],a,h=>by
  obtain rfl:a=A:=h;exact ⟨rfl,rfl,fun _ _=>rfl⟩
 | o :: l,a,h=>by
  obtain ⟨v,M⟩:∃ v,wpQuiet P ops C (fun E=>E=A) l (a.put o.dst v):=by
   rw [wpQuiet] at h
   split at h
   ·obtain ⟨v,_,h⟩:=h;exact ⟨v,h⟩
   ·exact ⟨_,h⟩
  obtain ⟨R,J,O⟩:=d_a l _ M;refine ⟨by rw [R,a_K],by rw [J,b_s],fun t H=>?_⟩
  rw [O t (fun I=>H (by
   obtain ⟨x,L,D⟩:=List.mem_filterMap.1 I;exact List.mem_filterMap.2 ⟨x,List.mem_cons_of_mem _ L,D⟩)),a_7 (fun D=>H (List.mem_filterMap.2 ⟨o,List.mem_cons_self,D⟩))]
def c_2 (ops:Array Oper) (n:Nat):List Oper->Bool
 | []=>true
 | o :: l=>(match o.dst with|some t=>decide (t < n) && !(r_A l).contains t|none=>true) && ((r_A (o :: l)).all fun t=>!(o.looksAt ops).contains t) && c_2 ops n l
theorem f_r {C:World->Prop} {A:Act} (n:Nat):∀ (l:List Oper) (a:Act),a.tmps.size=n->(∀ o,o∈l->∀ cs b,o.op≠.select cs b)->c_2 ops n l=true->
  wpQuiet P ops C (fun V=>V=A) l a->∀ o,o∈l->
  (Region.wanted o (yielded ops A.tmps)=true/\∃ v,(∀ t,o.dst=some t->A.tmps[t]?=some v)/\∀ W,C W->o.quietAt P A C W v) ∨
  (Region.wanted o (yielded ops A.tmps)=false/\∀ t,o.dst=some t->A.tmps[t]?=some undef)
 | [],_,_,_,_,_,o,M=>by cases M
 | o :: l,a,hn,hs,L,h,x,I=>by
  have R:=d_a (o :: l) a h;rw [c_2,Bool.and_eq_true,Bool.and_eq_true] at L;obtain ⟨⟨O,H⟩,L⟩:=L
  have E:∀ t,t∈o.looksAt ops->A.tmps[t]?=a.tmps[t]?:=fun t U=>R.2.2 t (fun hm=>by
   have:=List.all_eq_true.1 H t hm;simp at this;exact this U)
  have he:=c_g (ops:=ops) (hs o List.mem_cons_self) E;have hw:=b_y E
  have D:∀ v,wpQuiet P ops C (fun V=>V=A) l (a.put o.dst v)->∀ t,o.dst=some t->A.tmps[t]?=some v:=by
   intro v J t U;rw [U] at O J;simp at O;rw [(d_a l _ J).2.2 t O.2,b_F (by rw [hn];exact O.1)]
  rw [wpQuiet] at h;by_cases c:Region.wanted o (yielded ops a.tmps)=true
  ·rw [if_pos c] at h;obtain ⟨v,hq,J⟩:=h;rcases List.mem_cons.1 I with rfl|I
   ·left
    refine ⟨hw.trans c,v,D v J,fun W hW=>?_⟩;have:=hq W hW;unfold Oper.quietAt at *;rw [he];exact this
   ·exact f_r n l _ (by rw [a_K];exact hn) (fun o M=>hs o (List.mem_cons_of_mem _ M)) L J x I
  ·rw [if_neg c] at h;rcases List.mem_cons.1 I with rfl|I
   ·right
    exact ⟨hw.trans (by simpa using c),D _ h⟩
   ·exact f_r n l _ (by rw [a_K];exact hn) (fun o M=>hs o (List.mem_cons_of_mem _ M)) L h x I
/-- What an operation yields in the last frame A, whatever world on top of w it comes up in. -/
def r_B (P:Program) (ops:Array Oper) (w:World) (A:Act) (o:Oper):Prop:=
 (Region.wanted o (yielded ops A.tmps)=true/\∀ W,Below w.heap.size w W->∃ v,(∀ t,o.dst=some t->A.tmps[t]?=some v)/\o.quietAt P A (fun W'=>Below W.heap.size W W') W v) ∨
 (Region.wanted o (yielded ops A.tmps)=false/\∀ t,o.dst=some t->A.tmps[t]?=some undef)
theorem h_M {o:Oper} {a:Act} {C E:World->Prop} {W:World} {v:Value} (h:∀ W',C W'->E W') (D:o.quietAt P a C W v):o.quietAt P a E W v:=by
 unfold Oper.quietAt at *;generalize (execOp a.eval o).run P W=r at *;cases r with
 | halt x w'=>exact D
 | ok n w'=>
  cases n <;> simp only [Oper.quietUpon] at D ⊢
  case value u=>exact D
  case skip=>exact D
  case enter f args=>exact ⟨D.1,D.2.mono fun e H ⟨he,I⟩=>⟨he,h _ I⟩⟩
theorem j_y {w:World} {A a:Act} {l:List Oper} {n:Nat} (L:a.tmps.size=n) (J:∀ o,o∈l->∀ cs b,o.op≠.select cs b) (O:c_2 ops n l=true)
  (V:∀ F,Fam w F->wpQuiet P ops (fun W=>∃ d,W=F d) (fun M=>M=A) l a) (o:Oper) (R:o∈l):r_B P ops w A o:=by
 have D:=fun W (E:Below w.heap.size w W)=>f_r n l a L J O (V _ (c_9 E)) o R;by_cases c:Region.wanted o (yielded ops A.tmps)=true
 ·left
  refine ⟨c,fun W E=>?_⟩;rcases D W E with ⟨_,v,U,I⟩|⟨h,_⟩
  ·exact ⟨v,U,h_M (fun W' ⟨d,H⟩=>by rw [H];exact a_V W d) (I W (d_u (Below.refl _ _)))⟩
  ·rw [h] at c;cases c
 ·right
  rcases D w (Below.refl _ _) with ⟨h,_⟩|h
  ·exact absurd h c
  ·exact h
/-- The operation waits for the one with that number. -/
def a_Z (o:Oper) (j:Nat):Bool:=o.after.any fun e=>Region.binds .any e && e.on==j
theorem a_o {o:Oper} {j:Nat} {D:Array Bool} (h:a_Z o j=true) (E:∀ e∈o.after,Region.binds .any e=true->D.getD e.on false=true):D.getD j false=true:=by
 obtain ⟨e,he,hb⟩:=Array.any_eq_true'.1 h;simp only [Bool.and_eq_true,beq_iff_eq] at hb;rw [<- hb.2];exact E e he hb.1
/-- The shape: operation number m comes behind all ahead of it, and each behind it waits for those from m on; among the first m each looks only at slots of such as it waits for, none at the one that makes the block (number al), and no two write one slot; whoever is waited for stands ahead. -/
def h_N (ops:Array Oper) (al m:Nat):Bool:=
 decide (m<=ops.size) && Region.noSelect ops &&
 ((List.range ops.size).all fun i=>match ops[i]? with
  | none=>false
  | some o=>(o.after.all fun e=>!Region.binds .any e || decide (e.on < i)) && (List.range i).all fun j=>decide (j < m) || a_Z o j) &&
 (decide (ops.size<=m) || (List.range m).all fun j=>(List.range (m+1)).any fun k=>decide (j < k) && match ops[k]? with
  | none=>false
  | some o=>a_Z o j) &&
 ((List.range m).all fun i=>match ops[i]? with
  | none=>false
  | some o=>(List.range m).all fun j=>match (ops[j]?).bind (·.dst) with
   | none=>true
   | some t=>(!(o.looksAt ops).contains t || (a_Z o j && j != al)) && (i==j || o.dst != some t))
theorem b_e {D:Array Bool} {j:Nat} (h:D.getD j true=false):j < D.size/\D.getD j false=false:=by
 by_cases c:j < D.size
 ·refine ⟨c,?_⟩;simp [c] at h ⊢;exact h
 ·simp [c] at h
theorem d_6 {D:Array Bool} {j:Nat} (E:j < D.size) (h:¬ D.getD j true=false):D.getD j false=true:=by
 simp [E] at h ⊢;exact h
theorem a_2 {D:Array Bool} {i n:Nat} (J:D.getD i true=false) (h:D.toList.count false=n+1):(D.setIfInBounds i true).toList.count false=n:=by
 obtain ⟨E,I⟩:=b_e J;have H:i < D.toList.length:=by simpa using E
 rw [Array.toList_setIfInBounds,List.count_set H,h];have:D.toList[i]=false:=by simpa [E] using I
 simp [this]
theorem d_v {D:Array Bool} {n:Nat} (h:D.toList.count false=n+1):∃ i,D.getD i true=false:=by
 have H:false∈D.toList:=List.count_pos_iff.1 (by omega);obtain ⟨i,I,e⟩:=List.getElem_of_mem H;refine ⟨i,?_⟩;have E:i < D.size:=by simpa using I
 simp only [Array.getElem_toList] at e;simp [E,e]
theorem b_t {D:Array Bool} (h:D.toList.count false=0) (j:Nat):¬ D.getD j true=false:=by
 intro E;obtain ⟨I,H⟩:=b_e E;refine List.count_eq_zero.1 h ?_;have:D[j]=false:=by simpa [I] using H
 rw [<- this];simp
/-- Whoever is the first not yet come up is ready. -/
theorem c_L {D:Array Bool} (M:D.size=ops.size) (hb:∀ i o,ops[i]?=some o->∀ e∈o.after,Region.binds .any e=true->e.on < i):
  ∀ i,D.getD i true=false->Region.ready .any ops D≠[]:=by
 intro i
 induction i using Nat.strongRecOn with
 | _ i ih=>
  intro L J;obtain ⟨R,O⟩:=b_e L;have I:ops[i]?=some ops[i]:=Array.getElem?_eq_getElem (by omega)
  have:i∈Region.ready .any ops D:=mem_ready.2 ⟨L,_,I,fun e he E=>by
   have H:=hb i _ I e he E;by_cases c:D.getD e.on true=false
   ·exact absurd J (ih _ H c)
   ·exact d_6 (by omega) c⟩
  rw [J] at this;cases this
theorem g_O (hb:∀ i o,ops[i]?=some o->∀ e∈o.after,Region.binds .any e=true->e.on < i) {m:Nat} (hT:∀ i o,ops[i]?=some o->∀ j,m<=j->j < i->a_Z o j=true):
  ∀ (fuel k:Nat) (D:Array Bool) (s:Act) (W:World),D.size=ops.size->m<=k->D.toList.count false=fuel->(∀ j,j < k->D.getD j false=true)->(∀ j,k<=j->j < ops.size->D.getD j true=false)->
   wpList P ops Q (ops.toList.drop k) s W->wpAny P .any ops Q fuel D s W:=by
 intro fuel
 induction fuel with
 | zero=>
  intro k D s W H U R V J h
  have ab:ops.size<=k:=by
   rcases Nat.lt_or_ge k ops.size with c|c
   ·exact absurd (J k (Nat.le_refl _) c) (b_t R k)
   ·exact c
  rw [List.drop_eq_nil_of_le (by simpa using ab)] at h;refine ⟨?_,h⟩;refine List.eq_nil_iff_forall_not_mem.2 fun i L=>?_;exact b_t R i (mem_ready.1 L).1
 | succ fuel ih=>
  intro k D s W H U R V J h
  have E:k < ops.size:=by
   obtain ⟨i,L⟩:=d_v R;obtain ⟨h3,I⟩:=b_e L;rcases Nat.lt_or_ge i k with c|c
   ·rw [V i c] at I;cases I
   ·omega
  refine ⟨fun hr=>absurd hr (c_L H hb k (J k (Nat.le_refl _) E)),fun i L=>?_⟩;obtain ⟨M,o,ho,O⟩:=mem_ready.1 L;obtain ⟨h3,I⟩:=b_e M
  have ad:k<=i:=by
   rcases Nat.lt_or_ge i k with c|c
   ·rw [V i c] at I;cases I
   ·exact c
  obtain rfl:i=k:=by
   rcases Nat.lt_or_ge k i with c|c
   ·have:=a_o (hT i o ho k U c) O;have h5:=(b_e (J k (Nat.le_refl _) E)).2;rw [this] at h5;cases h5
   ·omega
  rw [List.drop_eq_getElem_cons (by simpa using E)] at h
  have ac:ops.toList[i]'(by simpa using E)=o:=by
   have:=Array.getElem?_eq_some_iff.1 ho;simpa using this.2
  rw [ac,wpList] at h;unfold wpOp;simp only [ho]
  have go:∀ a w,wpList P ops Q (ops.toList.drop (i+1)) a w->wpAny P .any ops Q fuel (D.setIfInBounds i true) a w:=fun a w hw=>
   ih (i+1) _ a w (by simpa using H) (by omega) (a_2 M R) (fun j hj=>by
    by_cases c:j=i
    ·subst c;simp [H,E]
    ·exact getD_set_true (V j (by omega))) (fun j hj aa=>by rw [getD_set_ne true (by omega)];exact J j (by omega) aa) hw
  split
  ·rename_i c
   rw [if_pos c] at h;rcases h with h|h
   ·exact .inl (Oper.wp_mono go h)
   ·exact .inr h
  ·rename_i c
   rw [if_neg c] at h;exact go _ _ h
/-- The block that was made: it stands, new, as it was laid. -/
def Made (w:World) (obj:Obj) (b:Nat) (W:World):Prop:=b < W.heap.size/\w.heap.size<=b/\W.heap[b]?=some obj
theorem Made.up {w W W':World} {obj:Obj} {b:Nat} (h:Made w obj b W) (hb:Below W.heap.size W W'):Made w obj b W':=
 ⟨Nat.lt_of_lt_of_le h.1 hb.size,h.2.1,(hb.block b h.1).trans h.2.2⟩
def d_K (b:Nat):Value:=.pointer (some ⟨b,0,none⟩)
structure Inv (ops:Array Oper) (w:World) (al m:Nat) (obj:Obj) (dst:Option Tmp) (A:Act) (listed:Array Bool) (s:Act) (W:World) (b:Nat):Prop where
 size:listed.size=ops.size
 head:∀ j,m<=j->j < ops.size->listed.getD j true=false
 fsize:s.tmps.size=A.tmps.size
 fdef:s.defers=A.defers
 slot:∀ t,(∀ j o,j < m->ops[j]?=some o->o.dst=some t->listed.getD j false=true)->s.tmps[t]?=(A.put dst (d_K b)).tmps[t]?
 below:Below w.heap.size w W
 made:al < m->listed.getD al false=true->Made w obj b W
 closed:∀ j o,ops[j]?=some o->listed.getD j false=true->∀ e∈o.after,Region.binds .any e=true->listed.getD e.on false=true
theorem b_A {D:Array Bool} {i:Nat} {o:Oper} (J:ops[i]?=some o) (H:∀ e∈o.after,Region.binds .any e=true->D.getD e.on false=true)
  (h:∀ j o,ops[j]?=some o->D.getD j false=true->∀ e∈o.after,Region.binds .any e=true->D.getD e.on false=true):
  ∀ j o,ops[j]?=some o->(D.setIfInBounds i true).getD j false=true->∀ e∈o.after,Region.binds .any e=true->(D.setIfInBounds i true).getD e.on false=true:=by
 intro j L E I e he hb;by_cases c:i=j
 ·subst c;rw [J] at E;cases E;exact getD_set_true (H e he hb)
 ·rw [getD_set_ne false c] at I;exact getD_set_true (h j L E I e he hb)
theorem Inv.look {w W:World} {al m b:Nat} {obj:Obj} {dst:Option Tmp} {A s:Act} {D:Array Bool} {o:Oper} (hI:Inv ops w al m obj dst A D s W b)
  (L:∀ o,al < m->ops[al]?=some o->o.dst=dst) (I:m<=al->dst=none)
  (O:∀ j t,j < m->(ops[j]?).bind (·.dst)=some t->t∈o.looksAt ops->a_Z o j=true/\j≠al) (V:al < ops.size∨m<=al)
  (H:∀ e∈o.after,Region.binds .any e=true->D.getD e.on false=true) (t:Nat) (M:t∈o.looksAt ops):s.tmps[t]?=A.tmps[t]?:=by
 rw [hI.slot t fun j oj U J E=>a_o (O j t U (by rw [J];exact E) M).1 H];refine a_7 fun E=>?_;rcases Nat.lt_or_ge al m with c|c
 ·have R:ops[al]?=some (ops[al]'(by omega)):=Array.getElem?_eq_getElem (by omega);have:=L _ c R;exact (O al t c (by rw [R];exact this.trans E) M).2 rfl
 ·rw [I c] at E;cases E
theorem Inv.all {w W:World} {al m b:Nat} {obj:Obj} {dst:Option Tmp} {A s:Act} {D:Array Bool} (I:Inv ops w al m obj dst A D s W b)
  (h:∀ j,j < m->D.getD j false=true):s=A.put dst (d_K b):=by
 have H:s.tmps=(A.put dst (d_K b)).tmps:=Array.ext_getElem? fun t=>I.slot t fun j _ J _ _=>h j J;have E:s.defers=(A.put dst (d_K b)).defers:=by rw [b_s];exact I.fdef
 cases s;cases L:A.put dst (d_K b);rw [L] at H E;simp only at H E;rw [H,E]
theorem j_z {w:World} {al m:Nat} {obj:Obj} {dst:Option Tmp} {A:Act} (hB:h_N ops al m=true)
  (an:∀ i o,i < m->i≠al->ops[i]?=some o->r_B P ops w A o)
  (ai:∀ o,al < m->ops[al]?=some o->o.dst=dst/\Region.wanted o (yielded ops A.tmps)=true/\∀ W,Below w.heap.size w W->(execOp A.eval o).run P W = .ok (.value (d_K W.heap.size)) (W.alloc obj))
  (aA:∀ t,dst=some t->t < A.tmps.size) (au:m<=al->dst=none)
  (ht:∀ W b,Below w.heap.size w W->(al < m->Made w obj b W)->wpList P ops Q (ops.toList.drop m) (A.put dst (d_K b)) W):
  ∀ (fuel:Nat) (D:Array Bool) (s:Act) (W:World) (b:Nat),D.toList.count false=fuel->Inv ops w al m obj dst A D s W b->wpAny P .any ops Q fuel D s W:=by
 simp only [h_N,Bool.and_eq_true,decide_eq_true_eq] at hB;obtain ⟨⟨⟨⟨hm,am⟩,ab⟩,aa⟩,hX⟩:=hB
 have hb:∀ i o,ops[i]?=some o->∀ e∈o.after,Region.binds .any e=true->e.on < i:=by
  intro i o I e he aD;have:=List.all_eq_true.1 ab i (List.mem_range.2 (Array.getElem?_eq_some_iff.1 I).1);simp only [I,Bool.and_eq_true] at this;have h1:=Array.all_eq_true_iff_forall_mem.1 this.1 e he;simpa [aD] using h1
 have hT:∀ i o,ops[i]?=some o->∀ j,m<=j->j < i->a_Z o j=true:=by
  intro i o I j J aC;have:=List.all_eq_true.1 ab i (List.mem_range.2 (Array.getElem?_eq_some_iff.1 I).1);simp only [I,Bool.and_eq_true] at this;have:=List.all_eq_true.1 this.2 j (List.mem_range.2 aC);simp only [Bool.or_eq_true,decide_eq_true_eq] at this;rcases this with h|h
  ·omega
  ·exact h
 have hS:m < ops.size->∀ j,j < m->∃ k o,j < k/\k<=m/\ops[k]?=some o/\a_Z o j=true:=by
  intro az j J;rw [Bool.or_eq_true] at aa;rcases aa with h|h
  ·simp at h;omega
  ·obtain ⟨k,hk,h1⟩:=List.any_eq_true.1 (List.all_eq_true.1 h j (List.mem_range.2 J));simp only [Bool.and_eq_true,decide_eq_true_eq] at h1;have aB:k < ops.size:=by have:=List.mem_range.1 hk;omega
   have I:ops[k]?=some ops[k]:=Array.getElem?_eq_getElem aB;rw [I] at h1;exact ⟨k,_,h1.1,by have:=List.mem_range.1 hk;omega,I,h1.2⟩
 have aw:∀ i o,i < m->ops[i]?=some o->∀ j t,j < m->(ops[j]?).bind (·.dst)=some t->(t∈o.looksAt ops->a_Z o j=true/\j≠al)/\(i≠j->o.dst≠some t):=by
  intro i o hi I j t J R;have:=List.all_eq_true.1 hX i (List.mem_range.2 hi);simp only [I] at this;have:=List.all_eq_true.1 this j (List.mem_range.2 J);simp only [R,Bool.and_eq_true,Bool.or_eq_true,bne_iff_ne,beq_iff_eq,Bool.not_eq_true',List.contains_eq_mem,decide_eq_false_iff_not] at this;refine ⟨fun hl=>?_,fun ag=>?_⟩
  ·rcases this.1 with h|h
   ·exact absurd hl h
   ·exact h
  ·rcases this.2 with h|h
   ·exact absurd h ag
   ·exact h
 have aF:al < ops.size∨m<=al:=by omega
 intro fuel
 induction fuel with
 | zero=>
  intro D s W b hc E
  have aH:m=ops.size:=by
   rcases Nat.lt_or_ge m ops.size with c|c
   ·exact absurd (E.head m (Nat.le_refl _) c) (b_t hc m)
   ·omega
  have H:∀ j,j < m->D.getD j false=true:=fun j J=>d_6 (by rw [E.size];omega) (b_t hc j);rw [E.all H];have h:=ht W b E.below (fun c=>E.made c (H al c));rw [List.drop_eq_nil_of_le (by simp;omega)] at h;refine ⟨?_,h⟩;refine List.eq_nil_iff_forall_not_mem.2 fun i hi=>?_;exact b_t hc i (mem_ready.1 hi).1
 | succ fuel ih=>
  intro D s W b hc E
  refine ⟨fun hr=>by
   obtain ⟨i,hi⟩:=d_v hc;exact absurd hr (c_L E.size hb i hi),fun i hi=>?_⟩
  obtain ⟨av,o,I,H⟩:=mem_ready.1 hi;have ar:i < ops.size:=(Array.getElem?_eq_some_iff.1 I).1;rcases Nat.lt_or_ge i m with ac|ac
  ·have ae:=E.look (o:=o) (fun o h1 h2=>(ai o h1 h2).1) au (fun j t J R hl=>(aw i o ac I j t J R).1 hl) aF H;have he:=c_g (ops:=ops) (Region.noSelect_spec am i o · · I) ae;have ak:=b_y ae
   have U:∀ (v:Value) (W':World),i≠al->(∀ t,o.dst=some t->A.tmps[t]?=some v)->Below W.heap.size W W'->wpAny P .any ops Q fuel (D.setIfInBounds i true) (s.put o.dst v) W':=by
    intro v W' L hv aq;refine ih _ _ W' b (a_2 av hc) ⟨by simpa using E.size,fun j J af=>by rw [getD_set_ne true (by omega)];exact E.head j J af,by rw [a_K];exact E.fsize,by rw [b_s];exact E.fdef,fun t M=>?_,E.below.trans (aq.mono E.below.size),fun c hl=>?_,b_A I H E.closed⟩
    ·by_cases R:o.dst=some t
     ·have ag:dst≠some t:=by
       intro ah;rcases Nat.lt_or_ge al m with c|c
       ·have ap:ops[al]?=some (ops[al]'(by omega)):=Array.getElem?_eq_getElem (by omega);exact (aw i o ac I al t c (by rw [ap];exact ((ai _ c ap).1).trans ah)).2 L R
       ·rw [au c] at ah;cases ah
      rw [a_7 ag,hv t R,R]
      have az:t < s.tmps.size:=by
       rw [E.fsize];exact (Array.getElem?_eq_some_iff.1 (hv t R)).1
      exact b_F az
     ·rw [a_7 R];refine E.slot t fun j oj J O ad=>?_;have:=M j oj J O ad;by_cases c:i=j
      ·subst c;rw [I] at O;cases O;exact absurd ad R
      ·rw [getD_set_ne false c] at this;exact this
    ·rw [getD_set_ne false L] at hl;exact (E.made c hl).up aq
   unfold wpOp;simp only [I];by_cases L:i=al
   ·subst L;obtain ⟨R,hw,ax⟩:=ai o ac I;rw [if_pos (ak.trans hw)]
    left
    unfold Oper.wp;rw [he,ax W E.below,Oper.upon_value];refine ih _ _ _ W.heap.size (a_2 av hc) ⟨by simpa using E.size,fun j J af=>by rw [getD_set_ne true (by omega)];exact E.head j J af,by rw [a_K];exact E.fsize,by rw [b_s];exact E.fdef,fun t M=>?_,E.below.alloc E.below.size obj,fun c _=>?_,b_A I H E.closed⟩
    ·rw [R];by_cases V:dst=some t
     ·rw [V];have h1:=aA t V;rw [b_F h1,b_F (by rw [E.fsize];exact h1)]
     ·rw [a_7 V,a_7 V]
      have:=E.slot t fun j oj J O ad=>by
       have h2:=M j oj J O ad;by_cases c:i=j
       ·subst c;rw [I] at O;cases O;exact absurd (R.symm.trans ad) V
       ·rw [getD_set_ne false c] at h2;exact h2
      rw [this,a_7 V]
    ·refine ⟨by simp,E.below.size,?_⟩;show (W.heap.push obj)[W.heap.size]?=some obj;simp
   ·rcases an i o ac L I with ⟨hw,hf⟩|⟨hw,hu⟩
    ·rw [if_pos (ak.trans hw)]
     left
     obtain ⟨v,hv,hq⟩:=hf W E.below;unfold Oper.wp;unfold Oper.quietAt at hq;rw [he];generalize (execOp A.eval o).run P W=r at hq;cases r with
     | halt x w'=>exact hq.elim
     | ok n w'=>
      cases n <;> simp only [Oper.quietUpon] at hq <;> simp only [Oper.upon]
      case value u=>
       obtain ⟨e1,e2⟩:=hq;rw [e1,e2];exact U v W L hv (Below.refl _ _)
      case skip=>
       obtain ⟨e1,e2⟩:=hq;rw [e1,<- e2];exact U v W L hv (Below.refl _ _)
      case enter f args=>
       obtain ⟨e1,hc⟩:=hq;rw [e1];exact hc.mono fun e aE ⟨he,ao⟩=>by subst he;exact U v aE L hv ao
    ·rw [if_neg (by rw [ak,hw];exact Bool.false_ne_true)];exact U undef W L hu (Below.refl _ _)
  ·obtain rfl:i=m:=by
    rcases Nat.lt_or_ge m i with c|c
    ·have h1:=a_o (hT i o I m (Nat.le_refl _) c) H;have h2:=(b_e (E.head m (Nat.le_refl _) (by omega))).2;rw [h1] at h2;cases h2
    ·omega
   have hl:∀ d j,i - j=d->j < i->D.getD j false=true:=by
    intro d
    induction d using Nat.strongRecOn with
    | _ d ihd=>
     intro j R J;obtain ⟨k,ok,aG,hk,aj,ay⟩:=hS ar j J;rcases Nat.lt_or_ge k i with c|c
     ·have:=ihd (i - k) (by omega) k rfl c;exact a_o ay (E.closed k ok aj this)
     ·obtain rfl:k=i:=by omega
      rw [I] at aj;cases aj;exact a_o ay H
   have hl:=fun j J=>hl (i - j) j rfl J;have hs:=E.all hl;have h:=ht W b E.below (fun c=>E.made c (hl al c));rw [<- hs] at h;exact (g_O (P:=P) (Q:=Q) hb hT (fuel+1) i D s W E.size (Nat.le_refl _) hc hl E.head h).2 i hi
theorem h_O {w:World} {al m:Nat} {obj:Obj} {dst:Option Tmp} {A a:Act} {l:List Oper} {C:World->Prop} (hm:m<=ops.size) (hl:l=(ops.toList.take m).eraseIdx al) (hq:wpQuiet P ops C (fun U=>U=A) l a)
  (M:∀ o,al < m->ops[al]?=some o->o.dst=dst) (L:m<=al->dst=none) (W:World) (hW:Below w.heap.size w W):
  Inv ops w al m obj dst A (Array.replicate ops.size false) a W 0:=by
 obtain ⟨h1,R,h3⟩:=d_a l a hq;refine ⟨by simp,fun j _ J=>by simp [J],h1.symm,R.symm,fun t V=>?_,hW,fun c h=>?_,fun j o D h=>?_⟩
 ·have E:∀ j o,j < m->ops[j]?=some o->o.dst≠some t:=by
   intro j o J D I;have:=V j o J D I;have H:j < ops.size:=(Array.getElem?_eq_some_iff.1 D).1;simp [H] at this
  rw [a_7 (fun I=>by
   rcases Nat.lt_or_ge al m with c|c
   ·have D:ops[al]?=some (ops[al]'(by omega)):=Array.getElem?_eq_getElem (by omega);exact E al _ c D ((M _ c D).trans I)
   ·rw [L c] at I;cases I),h3 t (fun O=>by
   obtain ⟨o,D,I⟩:=List.mem_filterMap.1 O;rw [hl] at D;have D:=List.mem_of_mem_eraseIdx D;obtain ⟨j,J,e⟩:=List.getElem_of_mem D;simp at J e;exact E j o (by omega) (by rw [Array.getElem?_eq_getElem (by omega),e]) I)]
 ·have H:al < ops.size:=by omega
  simp [H] at h
 ·have H:j < ops.size:=(Array.getElem?_eq_some_iff.1 D).1;simp [H] at h
theorem j_A {al m:Nat} {l:List Oper} (E:l=(ops.toList.take m).eraseIdx al) (i:Nat) (o:Oper) (I:i < m) (J:i≠al) (H:ops[i]?=some o):o∈l:=by
 rw [E]
 have D:(ops.toList.take m)[i]?=some o:=by
  rw [List.getElem?_take_of_lt I];simpa using H
 rcases Nat.lt_or_ge i al with c|c
 ·exact List.mem_of_getElem? (i:=i) (by rw [List.getElem?_eraseIdx_of_lt c];exact D)
 ·refine List.mem_of_getElem? (i:=i - 1) (l:=(ops.toList.take m).eraseIdx al) ?_;rw [List.getElem?_eraseIdx_of_ge (by omega),show i - 1+1=i by omega];exact D
/-- THE LAW: no block is made; the first m operations are quiet, the rest waits for all. -/
theorem p_2 {id:Nat} {a A:Act} {w:World} {l:List Oper} (m n:Nat) (hm:P.follows .mixedOrders=true) (hn:a.tmps.size=n) (I:(h_N ops m m && c_2 ops n l)=true) (O:l=ops.toList.take m)
  (R:∀ F,Fam w F->wpQuiet P ops (fun W=>∃ d,W=F d) (fun a'=>a'=A) l a)
  (V:∀ F,Fam w F->∀ d,wpList P ops Q (ops.toList.drop m) A (F d)):(Code.region id ops true).wp P Q a w:=by
 rw [Bool.and_eq_true] at I;have D:=I.1;simp only [h_N,Bool.and_eq_true,decide_eq_true_eq] at D
 have H:l=(ops.toList.take m).eraseIdx m:=by
  rw [O,List.eraseIdx_of_length_le (by simp;omega)]
 have E:∀ o,o∈l->∀ L b,o.op≠.select L b:=by
  intro o J L b;rw [O] at J;obtain ⟨j,U,e⟩:=List.getElem_of_mem (List.mem_of_mem_take J);exact Region.noSelect_spec D.1.1.1.2 j o L b (by rw [<- e];simp at U ⊢)
 refine wp_region_any hm (j_z (w:=w) (al:=m) (m:=m) (obj:=.cells #[] 0) (dst:=none) (A:=A) I.1 (fun i o hi M J=>j_y hn E I.2 R o (j_A H i o hi M J)) (fun o c=>absurd c (by omega)) (fun t h=>by cases h) (fun _=>rfl) (fun W b hW _=>?_) _ _ _ _ 0 ?_ (h_O D.1.1.1.1 H (R _ (c_9 (Below.refl _ _))) (fun o c=>absurd c (by omega)) (fun _=>rfl) _ ⟨rfl,rfl,rfl,Nat.le_refl _,fun _ _=>rfl⟩))
 ·obtain ⟨d,rfl⟩:=d_u hW;exact V _ (c_9 (Below.refl _ _)) d
 ·simp
/-- THE LAW, with a block that is made by operation number al. -/
theorem i_x {id:Nat} {a A:Act} {w:World} {l:List Oper} {obj:Obj} (al m n d:Nat) (U:Oper) (hm:P.follows .mixedOrders=true) (hn:a.tmps.size=n) (M:(h_N ops al m && c_2 ops n l && decide (al < m) && decide (d < n))=true) (hl:l=(ops.toList.take m).eraseIdx al)
  (E:ops[al]?=some U) (hd:U.dst=some d) (hg:U.guard=none)
  (L:∀ W,Below w.heap.size w W->(execOp A.eval U).run P W = .ok (.value (d_K W.heap.size)) (W.alloc obj))
  (hw:∀ F,Fam w F->wpQuiet P ops (fun W=>∃ d,W=F d) (fun a'=>a'=A) l a)
  (ht:∀ W b,Below w.heap.size w W->Made w obj b W->wpList P ops Q (ops.toList.drop m) (A.put (some d) (d_K b)) W):(Code.region id ops true).wp P Q a w:=by
 simp only [Bool.and_eq_true,decide_eq_true_eq] at M;obtain ⟨⟨⟨M,O⟩,R⟩,ab⟩:=M;have H:=M;simp only [h_N,Bool.and_eq_true,decide_eq_true_eq] at H
 have J:∀ o,o∈l->∀ V b,o.op≠.select V b:=by
  intro o E V b;rw [hl] at E;obtain ⟨j,hj,e⟩:=List.getElem_of_mem (List.mem_of_mem_take (List.mem_of_mem_eraseIdx E));exact Region.noSelect_spec H.1.1.1.2 j o V b (by rw [<- e];simp at hj ⊢)
 have I:=hw _ (c_9 (Below.refl _ _));have ac:=(d_a l a I).1
 have D:∀ o,al < m->ops[al]?=some o->o.dst=some d:=fun o _ h=>by
  rw [E] at h;cases h;exact hd
 refine wp_region_any hm (j_z (w:=w) (al:=al) (m:=m) (obj:=obj) (dst:=some d) (A:=A) M (fun i o hi aa E=>j_y hn J O hw o (j_A hl i o hi aa E)) (fun o c h=>⟨D o c h,?_,?_⟩) (fun t h=>by cases h;rw [ac,hn];exact ab) (fun c=>by omega) (fun W b hW hM=>ht W b hW (hM R)) _ _ _ _ 0 ?_ (h_O H.1.1.1.1 hl I D (fun c=>by omega) _ ⟨rfl,rfl,rfl,Nat.le_refl _,fun _ _=>rfl⟩))
 ·rw [E] at h;cases h;unfold Region.wanted;rw [hg]
 ·rw [E] at h;cases h;exact L
 ·simp
theorem j_B {id:Nat} {a:Act} {w:World} {l:List Oper} (m n:Nat) (D:P.follows .mixedOrders=true) (E:a.tmps.size=n) (I:l=ops.toList.take m) (J:(h_N ops m m && c_2 ops n l)=true)
  (h:∃ A,(∀ F,Fam w F->wpQuiet P ops (fun W=>∃ d,W=F d) (fun H=>H=A) l a)/\∀ W,Below w.heap.size w W->wpList P ops Q (ops.toList.drop m) A W):(Code.region id ops true).wp P Q a w:=
 let ⟨A,h1,h2⟩:=h
 p_2 (A:=A) m n D E J I h1 (fun _ hF d=>h2 _ (hF.below d))
theorem d_7 {id:Nat} {a:Act} {w:World} {l:List Oper} {D:Oper} (obj:Obj) (al m n d:Nat) (E:P.follows .mixedOrders=true) (I:a.tmps.size=n) (L:l=(ops.toList.take m).eraseIdx al) (O:(h_N ops al m && c_2 ops n l && decide (al < m) && decide (d < n))=true)
  (M:ops[al]?=some D) (H:D.dst=some d) (R:D.guard=none)
  (h:∃ A,(∀ F,Fam w F->wpQuiet P ops (fun W=>∃ d,W=F d) (fun J=>J=A) l a)/\(∀ W,(execOp A.eval D).run P W = .ok (.value (d_K W.heap.size)) (W.alloc obj))/\
   ∀ W b,Below w.heap.size w W->Made w obj b W->wpList P ops Q (ops.toList.drop m) (A.put (some d) (d_K b)) W):(Code.region id ops true).wp P Q a w:=
 let ⟨A,h1,h2,h3⟩:=h
 i_x (A:=A) (obj:=obj) al m n d D E I O L M H R (fun W _=>h2 W) h1 h3
theorem Made.frozen {w W:World} {b:Nat} {D:Array Value} {t:TypeId} (h:Made w (.cells D t) b W) (i:Nat):W.frozen? ⟨b,i,none⟩=false:=by
 unfold World.frozen?;simp [h.2.2]
theorem a_8 {B:Nat} {a w:World} (h:Below B a w) (b:Nat) (hb:B<=b) (x y:Value):Below B a ((w.setCell ⟨b,0,none⟩ x).setCell ⟨b,1,none⟩ y):=
 (h.setCell (p:=⟨b,0,none⟩) hb x).setCell (p:=⟨b,1,none⟩) hb y
theorem a_P {c:Code} {a:Act} {w:World} (h:∀ D,D=w->c.wp P Q a D):c.wp P Q a w:=h w rfl
theorem Made.cell {w W:World} {b i:Nat} {D:Array Value} {t:TypeId} {H:Nat×Nat} {v:Value} (h:Made w (.cells D t H) b W) (E:D[i]?=some v):W.cell? ⟨b,i,none⟩=some v:=by
 unfold World.cell?;simp only [h.2.2];simpa using E
end
section
variable {P : Program} {ops : Array Oper} {Q : Exit -> Act -> World -> Prop}
/-- What the operation number k hands back, and what stays true of it. -/
structure Told where
 k:Nat
 t:Tmp
 φ:Value->World->Prop
/-- The frame G with the told values in their slots. -/
def b_l (ks:List Told) (x:Nat->Value) (G:Act):Act:=ks.foldl (fun a e=>a.put (some e.t) (x e.k)) G
theorem e_u (x:Nat->Value):∀ (ks:List Told) (G:Act),(b_l ks x G).tmps.size=G.tmps.size
 | [],_=>rfl
 | e :: ks,G=>by rw [b_l,List.foldl_cons];exact (e_u x ks _).trans (a_K _ _ _)
theorem b_N (x:Nat->Value):∀ (ks:List Told) (G:Act),(b_l ks x G).defers=G.defers
 | [],_=>rfl
 | e :: ks,G=>by rw [b_l,List.foldl_cons];exact (b_N x ks _).trans (b_s _ _ _)
theorem h_P (x:Nat->Value) (t:Tmp):∀ (ks:List Told) (G:Act),(∀ e,e∈ks->e.t≠t)->(b_l ks x G).tmps[t]?=G.tmps[t]?
 | [],_,_=>rfl
 | e :: ks,G,h=>by
  rw [b_l,List.foldl_cons];refine (h_P x t ks _ fun e he=>h e (List.mem_cons_of_mem _ he)).trans (a_7 fun D=>h e List.mem_cons_self (Option.some.inj D))
theorem g_P (x:Nat->Value):∀ (ks:List Told) (G:Act),(ks.map (·.t)).Nodup->∀ e,e∈ks->e.t < G.tmps.size->(b_l ks x G).tmps[e.t]?=some (x e.k)
 | [],_,_,e,he,_=>by cases he
 | f :: ks,G,hn,e,he,hlt=>by
  rw [List.map_cons,List.nodup_cons] at hn;rw [b_l,List.foldl_cons];rcases List.mem_cons.1 he with rfl|he
  ·refine (h_P x e.t ks _ fun g E D=>hn.1 (List.mem_map.2 ⟨g,E,D⟩)).trans (b_F hlt)
  ·exact g_P x ks _ hn.2 e he (by rw [a_K];exact hlt)
/-- Another value for one of them. -/
def upd (x:Nat->Value) (k:Nat) (v:Value):Nat->Value:=fun j=>if j=k then v else x j
theorem d_8 (x:Nat->Value) (k:Nat) (v:Value) (t:Tmp):∀ (ks:List Told) (G D:Act),D.tmps[t]?=G.tmps[t]?->D.tmps.size=G.tmps.size->(∀ e,e∈ks->e.k=k->e.t≠t)->(b_l ks (upd x k v) D).tmps[t]?=(b_l ks x G).tmps[t]?
 | [],_,_,h,_,_=>h
 | e :: ks,G,D,h,hs,hk=>by
  rw [b_l,b_l,List.foldl_cons,List.foldl_cons];refine d_8 x k v t ks _ _ ?_ (by rw [a_K,a_K];exact hs) fun e he=>hk e (List.mem_cons_of_mem _ he);by_cases c:e.t=t
  ·have H:e.k≠k:=fun h=>hk e List.mem_cons_self h c;have I:upd x k v e.k=x e.k:=if_neg H;rw [I];subst c;by_cases d:e.t < G.tmps.size
   ·rw [b_F d,b_F (by rw [hs];exact d)]
   ·rw [Array.getElem?_eq_none (by rw [a_K,hs];exact Nat.le_of_not_lt d),Array.getElem?_eq_none (by rw [a_K];exact Nat.le_of_not_lt d)]
  ·rw [a_7 (fun E=>c (Option.some.inj E)),a_7 (fun E=>c (Option.some.inj E))];exact h
def a_H (ks:List Told) (i:Nat):Option Told:=ks.find? fun e=>e.k==i
/-- What is known, at an operation, of the told values that it looks at. -/
def b_V (ops:Array Oper) (ks:List Told) (o:Oper) (x:Nat->Value) (F:World->World):Prop:=∀ e,e∈ks->(o.looksAt ops).contains e.t=true->∀ d,e.φ (x e.k) (F d)
/-- The operation yields a value of which φ holds, and keeps what stood. -/
def a_f (P:Program) (φ:Value->World->Prop) (W:World):Result Next->Prop
 | .ok (.value u) W'=>φ u W'/\Below W.heap.size W W'
 | .ok .skip W'=>φ undef W'/\Below W.heap.size W W'
 | .ok (.enter f args) W'=>W'=W/\Calls P f args W (fun e W''=>∃ v,e = .returned v/\φ v W''/\Below W.heap.size W W'')
 | _=>False
def a_k (P:Program) (o:Oper) (a:Act) (W:World) (φ:Value->World->Prop):Prop:=a_f P φ W ((execOp a.eval o).run P W)
/-- What the one writing operation leaves. -/
def b_O (P:Program) (φ:Value->World->Prop) (W:World):Result Next->Prop
 | .ok (.value u) W'=>φ u W'
 | .ok .skip W'=>φ undef W'
 | .ok (.enter f args) W'=>W'=W/\Calls P f args W (fun e W''=>∃ v,e = .returned v/\φ v W'')
 | _=>False
def b_P (P:Program) (o:Oper) (a:Act) (W:World) (φ:Value->World->Prop):Prop:=b_O P φ W ((execOp a.eval o).run P W)
/-- What a told operation owes. -/
def p_3 (P:Program) (ops:Array Oper) (w:World) (ks:List Told) (x:Nat->Value) (_:Nat) (o:Oper) (a:Act) (e:Told):Prop:=∀ F,Fam w F->b_V ops ks o x F->Region.wanted o (yielded ops a.tmps)=true/\∀ d,a_k P o a (F d) e.φ
/-- The same where operation number c may write what was made since w. -/
def g_Q (P:Program) (ops:Array Oper) (w:World) (ks:List Told) (c:Nat) (T:World->World->Prop) (x:Nat->Value) (i:Nat) (o:Oper) (a:Act) (e:Told):Prop:=(i≠c->p_3 P ops w ks x i o a e)/\(i=c->Region.wanted o (yielded ops a.tmps)=true/\∀ W,Below w.heap.size w W->b_V ops ks o x (fun _=>W)->b_P P o a W fun v W'=>e.φ v W'/\Below w.heap.size w W'/\T W W')
/-- The walk in the order of the text. -/
def b_Y (P:Program) (ops:Array Oper) (w:World) (ks:List Told) (Y:Nat->Oper->Act->Told->Prop) (x:Nat->Value) (G:Act):Nat->List Oper->Act->Prop
 | _,[],a=>a=G
 | i,o :: l,a=>match a_H ks i with
  | none=>∃ v,(∀ F,Fam w F->b_V ops ks o x F->if Region.wanted o (yielded ops a.tmps)=true then ∀ K:Act->Prop,K (a.put o.dst v)->o.quiet P a (fun W=>∃ d,W=F d) K else v=undef)/\b_Y P ops w ks Y x G (i+1) l (a.put o.dst v)
  | some e=>Y i o a e/\b_Y P ops w ks Y x G (i+1) l (a.put (some e.t) (x e.k))
abbrev d_R (P:Program) (ops:Array Oper) (w:World) (ks:List Told) (x:Nat->Value) (G:Act):Nat->List Oper->Act->Prop:=b_Y P ops w ks (p_3 P ops w ks x) x G
/-- The dumps' shape, for a list of told operations: each is among the first m, writes the slot that it names; no two of them write one slot. -/
def g_R (ops:Array Oper) (ks:List Told) (m n:Nat):Bool:=
 (ks.all fun e=>decide (e.k < m) && decide (e.t < n) && (((ops[e.k]?).bind (·.dst))==some e.t)) && decide (ks.map (·.t)).Nodup && decide (ks.map (·.k)).Nodup
theorem b_Q {ks:List Told} {i:Nat} {e:Told} (h:a_H ks i=some e):e∈ks/\e.k=i:=by
 unfold a_H at h;exact ⟨List.mem_of_find?_eq_some h,by simpa using List.find?_some h⟩
theorem d_S {ks:List Told} {i:Nat} (h:a_H ks i=none):∀ e,e∈ks->e.k≠i:=by
 unfold a_H at h;intro e he D;have:=List.find?_eq_none.1 h e he;simp [D] at this
theorem f_s {w:World} {ks:List Told} {Y:Nat->Oper->Act->Told->Prop} {x:Nat->Value} {G:Act}:∀ (l:List Oper) (i:Nat) (a:Act),(∀ j e,a_H ks (i+j)=some e->∀ o,l[j]?=some o->o.dst=some e.t)->b_Y P ops w ks Y x G i l a->
  G.tmps.size=a.tmps.size/\G.defers=a.defers/\∀ t,t∉r_A l->G.tmps[t]?=a.tmps[t]?
 | [],i,a,_,h=>by
  obtain rfl:a=G:=h;exact ⟨rfl,rfl,fun _ _=>rfl⟩
 | o :: l,i,a,hk,h=>by
  obtain ⟨v,L⟩:∃ v,b_Y P ops w ks Y x G (i+1) l (a.put o.dst v):=by
   rw [b_Y] at h
   split at h
   ·obtain ⟨v,_,E⟩:=h;exact ⟨v,E⟩
   ·rename_i e he
    have:=hk 0 e he o rfl;rw [this];exact ⟨_,h.2⟩
  obtain ⟨R,E,O⟩:=f_s l (i+1) _ (fun j e he o M=>hk (j+1) e (by rw [show i+(j+1)=i+1+j by omega];exact he) o (by simpa using M)) L;refine ⟨by rw [R,a_K],by rw [E,b_s],fun t H=>?_⟩
  rw [O t (fun I=>H (by
   obtain ⟨x,J,D⟩:=List.mem_filterMap.1 I;exact List.mem_filterMap.2 ⟨x,List.mem_cons_of_mem _ J,D⟩)),a_7 (fun D=>H (List.mem_filterMap.2 ⟨o,List.mem_cons_self,D⟩))]
/-- What an operation yields in the last frame G, in the families of whose worlds the facts hold. -/
def g_h (P:Program) (ops:Array Oper) (w:World) (ks:List Told) (Y:Nat->Oper->Act->Told->Prop) (x:Nat->Value) (G:Act) (i:Nat) (o:Oper):Prop:=
 match a_H ks i with
  | none=>∀ F,Fam w F->b_V ops ks o x F->(Region.wanted o (yielded ops G.tmps)=true/\∃ v,(∀ t,o.dst=some t->G.tmps[t]?=some v)/\∀ d,o.quietAt P G (fun W=>∃ d,W=F d) (F d) v)∨(Region.wanted o (yielded ops G.tmps)=false/\∀ t,o.dst=some t->G.tmps[t]?=some undef)
  | some e=>Y i o G e
theorem k_B {w:World} {ks:List Told} {c:Nat} {T:World->World->Prop} {x:Nat->Value} {i:Nat} {o:Oper} {a G:Act} {e:Told} (he:execOp G.eval o=execOp a.eval o) (D:Region.wanted o (yielded ops G.tmps)=Region.wanted o (yielded ops a.tmps)) (h:g_Q P ops w ks c T x i o a e):g_Q P ops w ks c T x i o G e:=by
 unfold g_Q p_3 a_k b_P at *;rw [he,D];exact h
theorem l_E {w:World} {ks:List Told} {Y:Nat->Oper->Act->Told->Prop} {x:Nat->Value} {G:Act} (hY:∀ i o a e,execOp G.eval o=execOp a.eval o->Region.wanted o (yielded ops G.tmps)=Region.wanted o (yielded ops a.tmps)->Y i o a e->Y i o G e) (n:Nat):∀ (l:List Oper) (i:Nat) (a:Act),a.tmps.size=n->(∀ o,o∈l->∀ cs b,o.op≠.select cs b)->c_2 ops n l=true->
  (∀ j e,a_H ks (i+j)=some e->∀ o,l[j]?=some o->o.dst=some e.t)->b_Y P ops w ks Y x G i l a->∀ j o,l[j]?=some o->g_h P ops w ks Y x G (i+j) o
 | [],_,_,_,_,_,_,_,j,o,U=>by simp at U
 | o :: l,i,a,hn,hs,hl,hk,h,j,p,I=>by
  have ab:=f_s (o :: l) i a hk h;rw [c_2,Bool.and_eq_true,Bool.and_eq_true] at hl;obtain ⟨⟨E,M⟩,hl⟩:=hl
  have J:∀ t,t∈o.looksAt ops->G.tmps[t]?=a.tmps[t]?:=fun t H=>ab.2.2 t (fun hm=>by
   have:=List.all_eq_true.1 M t hm;simp at this;exact this H)
  have he:=c_g (ops:=ops) (hs o List.mem_cons_self) J;have hw:=b_y J;have R:∀ j e,a_H ks (i+1+j)=some e->∀ o,l[j]?=some o->o.dst=some e.t:=fun j e he o U=>hk (j+1) e (by rw [show i+(j+1)=i+1+j by omega];exact he) o (by simpa using U)
  have L:∀ v,b_Y P ops w ks Y x G (i+1) l (a.put o.dst v)->∀ j p,(o :: l)[j+1]?=some p->g_h P ops w ks Y x G (i+(j+1)) p:=fun v V j p I=>by
   have:=l_E hY n l (i+1) (a.put o.dst v) (by rw [a_K];exact hn) (fun o U=>hs o (List.mem_cons_of_mem _ U)) hl R V j p (by simpa using I);rw [show i+(j+1)=i+1+j by omega];exact this
  have D:∀ v,b_Y P ops w ks Y x G (i+1) l (a.put o.dst v)->∀ t,o.dst=some t->G.tmps[t]?=some v:=by
   intro v V t H;rw [H] at E V;simp at E;rw [(f_s l (i+1) _ R V).2.2 t E.2,b_F (by rw [hn];exact E.1)]
  rw [b_Y] at h;cases O:a_H ks i with
  | none=>
   rw [O] at h;obtain ⟨v,h1,h2⟩:=h;cases j with
   | succ j=>exact L v h2 j p I
   | zero=>
    simp only [List.getElem?_cons_zero,Option.some.injEq] at I;subst I;unfold g_h;rw [Nat.add_zero,O];intro F hF hf;have h3:=h1 F hF hf;by_cases c:Region.wanted o (yielded ops a.tmps)=true
    ·rw [if_pos c] at h3;obtain ⟨u,hu,hK⟩:=h3 (fun a'=>a'=a.put o.dst v) rfl
     left
     refine ⟨hw.trans c,u,?_,fun d=>?_⟩
     ·intro t H;rw [D v h2 t H];rw [H] at hK E;simp at E;have e1:(a.put (some t) u).tmps[t]?=(a.put (some t) v).tmps[t]?:=congrArg (fun a=>a.tmps[t]?) hK;rw [b_F (by rw [hn];exact E.1),b_F (by rw [hn];exact E.1)] at e1;exact e1.symm
     ·have:=hu _ ⟨d,rfl⟩;unfold Oper.quietAt at *;rw [he];exact this
    ·rw [if_neg c] at h3
     right
     refine ⟨hw.trans (by simpa using c),fun t H=>?_⟩;rw [D v h2 t H,h3]
  | some e=>
   rw [O] at h;have aa:=hk 0 e O o rfl;cases j with
   | succ j=>exact L (x e.k) (by rw [aa];exact h.2) j p I
   | zero=>
    simp only [List.getElem?_cons_zero,Option.some.injEq] at I;subst I;unfold g_h;rw [Nat.add_zero,O];exact hY _ _ _ _ he hw h.1
theorem d_w:∀ (ks:List Told),(ks.map (·.k)).Nodup->∀ e,e∈ks->a_H ks e.k=some e
 | [],_,e,he=>by cases he
 | f :: ks,hn,e,he=>by
  rw [List.map_cons,List.nodup_cons] at hn;unfold a_H;rw [List.find?_cons];rcases List.mem_cons.1 he with rfl|he
  ·simp
  ·have D:f.k≠e.k:=fun h=>hn.1 (List.mem_map.2 ⟨e,he,h.symm⟩);have:(f.k==e.k)=false:=by simpa using D
   rw [this];exact d_w ks hn.2 e he
structure InvR (ops:Array Oper) (w:World) (ks:List Told) (m:Nat) (G:Act) (listed:Array Bool) (s:Act) (W:World) (x:Nat->Value):Prop where
 size:listed.size=ops.size
 head:∀ j,m<=j->j < ops.size->listed.getD j true=false
 fsize:s.tmps.size=G.tmps.size
 fdef:s.defers=G.defers
 slot:∀ t,(∀ j o,j < m->ops[j]?=some o->o.dst=some t->listed.getD j false=true)->s.tmps[t]?=G.tmps[t]?
 below:Below w.heap.size w W
 told:∀ e,e∈ks->listed.getD e.k false=true->e.φ (x e.k) W
 closed:∀ j o,ops[j]?=some o->listed.getD j false=true->∀ e∈o.after,Region.binds .any e=true->listed.getD e.on false=true
theorem InvR.all {w W:World} {ks:List Told} {m:Nat} {G s:Act} {D:Array Bool} {x:Nat->Value} (I:InvR ops w ks m G D s W x) (h:∀ j,j < m->D.getD j false=true):s=G:=by
 have H:s.tmps=G.tmps:=Array.ext_getElem? fun t=>I.slot t fun j _ J _ _=>h j J;have E:=I.fdef;cases s;cases G;simp only at H E;rw [H,E]
theorem a_l {w:World} {ks:List Told} {Y:Nat->Oper->Act->Told->Prop} {x:Nat->Value} {G a:Act} {i:Nat} {o:Oper} {l:List Oper} (I:a_H ks i=none) (H:Region.wanted o (yielded ops a.tmps)=true)
  (h:∃ v,(∀ F,Fam w F->b_V ops ks o x F->∀ K:Act->Prop,K (a.put o.dst v)->o.quiet P a (fun W=>∃ d,W=F d) K)/\b_Y P ops w ks Y x G (i+1) l (a.put o.dst v)):b_Y P ops w ks Y x G i (o :: l) a:=by
 rw [b_Y,I];obtain ⟨v,E,D⟩:=h;exact ⟨v,fun F hF hf=>by rw [if_pos H];exact E F hF hf,D⟩
theorem a_q {w:World} {ks:List Told} {x:Nat->Value} {G a:Act} {i:Nat} {o:Oper} {l:List Oper} {e:Told} (I:a_H ks i=some e) (H:Region.wanted o (yielded ops a.tmps)=true)
  (E:∀ F,Fam w F->b_V ops ks o x F->∀ d,a_k P o a (F d) e.φ) (D:d_R P ops w ks x G (i+1) l (a.put (some e.t) (x e.k))):d_R P ops w ks x G i (o :: l) a:=by
 unfold d_R;rw [b_Y,I];exact ⟨fun F hF hf=>⟨H,E F hF hf⟩,D⟩
theorem d_x {w:World} {ks:List Told} {c:Nat} {T:World->World->Prop} {x:Nat->Value} {G a:Act} {i:Nat} {o:Oper} {l:List Oper} {e:Told} (J:a_H ks i=some e) (E:i≠c) (I:Region.wanted o (yielded ops a.tmps)=true)
  (H:∀ F,Fam w F->b_V ops ks o x F->∀ d,a_k P o a (F d) e.φ) (D:b_Y P ops w ks (g_Q P ops w ks c T x) x G (i+1) l (a.put (some e.t) (x e.k))):b_Y P ops w ks (g_Q P ops w ks c T x) x G i (o :: l) a:=by
 rw [b_Y,J];exact ⟨⟨fun _ F hF hf=>⟨I,H F hF hf⟩,fun h=>absurd h E⟩,D⟩
theorem p_4 {w:World} {ks:List Told} {c:Nat} {T:World->World->Prop} {x:Nat->Value} {G a:Act} {i:Nat} {o:Oper} {l:List Oper} {e:Told} (J:a_H ks i=some e) (E:i=c) (I:Region.wanted o (yielded ops a.tmps)=true)
  (H:∀ W,Below w.heap.size w W->b_V ops ks o x (fun _=>W)->b_P P o a W fun v W'=>e.φ v W'/\Below w.heap.size w W'/\T W W') (D:b_Y P ops w ks (g_Q P ops w ks c T x) x G (i+1) l (a.put (some e.t) (x e.k))):b_Y P ops w ks (g_Q P ops w ks c T x) x G i (o :: l) a:=by
 rw [b_Y,J];exact ⟨⟨fun h=>absurd E h,fun _=>⟨I,H⟩⟩,D⟩
theorem f_t {w:World} {ks:List Told} {Y E:Nat->Oper->Act->Told->Prop} {x:Nat->Value} {G:Act} (h:∀ i o a e,a_H ks i=some e->Y i o a e->E i o a e):∀ {l:List Oper} {i:Nat} {a:Act},b_Y P ops w ks Y x G i l a->b_Y P ops w ks E x G i l a
 | [],_,_,hw=>hw
 | o :: l,i,a,hw=>by
  rw [b_Y] at hw ⊢;cases D:a_H ks i with
  | none=>
   rw [D] at hw;obtain ⟨v,I,H⟩:=hw;exact ⟨v,I,f_t h H⟩
  | some e=>
   rw [D] at hw;exact ⟨h _ _ _ _ D hw.1,f_t h hw.2⟩
theorem b_c {w:World} {ks:List Told} {Y:Nat->Oper->Act->Told->Prop} {x:Nat->Value} {G a:Act} {i:Nat} (h:a=G):b_Y P ops w ks Y x G i [] a:=h
end
section
variable {P : Program} {ops : Array Oper} {Q : Exit -> Act -> World -> Prop}
def h_Q (ops:Array Oper) (i0:Nat):Bool:=(List.range ops.size).all fun j=>j==i0 || match ops[j]?,ops[i0]? with
 | some oj,some o0=>a_Z o0 j || a_Z oj i0 || o0.apart ops oj
 | _,_=>false
theorem n_S {D:Nat} {H:Oper} (J:ops[D]?=some H) (h:h_Q ops D=true):∀ j E,ops[j]?=some E->j≠D->a_Z H j=false->a_Z E D=false->H.apart ops E=true:=by
 intro j E M L I R;have O:=List.all_eq_true.1 h j (List.mem_range.2 (Array.getElem?_eq_some_iff.1 M).1);simp only [M,J,I,R,Bool.false_or,Bool.or_eq_true,beq_iff_eq,L,false_or] at O;exact O
end
section
variable {P : Program} {ops : Array Oper} {Q : Exit -> Act -> World -> Prop}
def h_R (ops:Array Oper) (L0:List Nat) (m:Nat):Bool:=
 decide (m<=ops.size) && Region.noSelect ops &&
 ((List.range ops.size).all fun i=>match ops[i]? with
  | none=>false
  | some o=>(o.after.all fun e=>!Region.binds .any e || decide (e.on < i)) && (List.range i).all fun j=>decide (j < m) || a_Z o j) &&
 (decide (ops.size<=m) || (List.range m).all fun j=>decide (j∈L0) || (List.range (m+1)).any fun k=>decide (j < k) && decide (k∉L0) && match ops[k]? with
  | none=>false
  | some o=>a_Z o j) &&
 ((List.range m).all fun i=>match ops[i]? with
  | none=>false
  | some o=>(List.range m).all fun j=>match (ops[j]?).bind (·.dst) with
   | none=>true
   | some t=>(!(o.looksAt ops).contains t || (a_Z o j && j != m)) && (i==j || o.dst != some t)) &&
 (L0.all fun i0=>decide (i0 < m) && match ops[i0]? with
  | none=>false
  | some o=>o.after.all fun e=>!Region.binds .any e || decide (e.on∉L0))
theorem b_f {o:Oper} {a:Act} {W:World} {φ ψ:Value->World->Prop} (h:∀ v W',φ v W'->ψ v W') (D:a_k P o a W φ):a_k P o a W ψ:=by
 unfold a_k at D ⊢;generalize (execOp a.eval o).run P W=r at D;cases r with
 | halt x w'=>exact D
 | ok n w'=>
  cases n <;> simp only [a_f] at D ⊢
  case value u=>exact ⟨h _ _ D.1,D.2⟩
  case skip=>exact ⟨h _ _ D.1,D.2⟩
  case enter f args=>exact ⟨D.1,D.2.mono fun J E ⟨v,he,H,I⟩=>⟨v,he,h _ _ H,I⟩⟩
/-- All of these come behind operation number c. -/
def i_y (ops:Array Oper) (c:Nat) (D:List Nat):Bool:=D.all fun k=>match ops[k]? with
 | none=>false
 | some o=>a_Z o c || D.any fun j=>a_Z o j
theorem b_d {c:Nat} {D:List Nat} {E:Array Bool} (hb:∀ i o,ops[i]?=some o->∀ e∈o.after,Region.binds .any e=true->e.on < i)
  (R:∀ j o,ops[j]?=some o->E.getD j false=true->∀ e∈o.after,Region.binds .any e=true->E.getD e.on false=true) (V:i_y ops c D=true):∀ k,k∈D->E.getD k false=true->E.getD c false=true:=by
 intro k
 induction k using Nat.strongRecOn with
 | _ k ih=>
  intro hk O;have H:=List.all_eq_true.1 V k hk;cases J:ops[k]? with
  | none=>rw [J] at H;cases H
  | some o=>
   rw [J] at H;simp only [Bool.or_eq_true] at H;rcases H with H|H
   ·exact a_o H (R k o J O)
   ·obtain ⟨j,U,M⟩:=List.any_eq_true.1 H;refine ih j ?_ U (a_o M (R k o J O));unfold a_Z at M;obtain ⟨e,L,I⟩:=Array.any_eq_true'.1 M;simp only [Bool.and_eq_true,beq_iff_eq] at I;rw [<- I.2];exact hb k o J e L I.1
theorem n_T {c:Nat} {T:World->World->Prop} {w:World} {ks:List Told} {m n:Nat} {G:(Nat->Value)->Act} {G0:Act} (L0:List Nat) (fc fa:List Nat) (aa:Value->Option Nat) (bl:∀ e,e∈ks->e.k∈fc->∀ o,ops[e.k]?=some o->∀ x F,Fam w F->b_V ops ks o x F->∀ d,a_k P o (G x) (F d) fun v W'=>e.φ v W'/\∀ b,aa v=some b->(F d).heap.size<=b∨∃ e0,e0∈ks/\e0.k∈fc/\(o.looksAt ops).contains e0.t=true/\aa (x e0.k)=some b) (bk:∀ e,e∈ks->e.k∈fa->∀ o,ops[e.k]?=some o->∀ x F,Fam w F->b_V ops ks o x F->∀ d,a_k P o (G x) (F d) fun v W'=>e.φ v W'/\∀ b,aa v=some b->(F d).heap.size<=b) (a2:∀ e,e∈ks->e.k∈fc∨e.k∈fa->∀ v W,e.φ v W->∀ b,aa v=some b->b < W.heap.size) (aT:∀ k,k∈fc->k∉fa) (bg:∀ e,e∈ks->e.k=c->e.k∉fc/\e.k∉fa) (D:List Nat) (hD:i_y ops c D=true) (bj:∀ e,e∈ks->e.k≠c->e.k∉D->∀ v W W',e.φ v W->Below w.heap.size w W->T W W'->e.φ v W') (bd:∀ U,U∈L0->U∉fc/\U∉fa) (hB:h_R ops L0 m=true) (aP:∀ U,U∈L0->∀ o0,ops[U]?=some o0->∀ j oj,ops[j]?=some oj->j≠U->a_Z o0 j=false->a_Z oj U=false->o0.apart ops oj=true)
  (hQ:∀ U,U∈L0->∀ o0,ops[U]?=some o0->∀ c a w v,Q (.panic c) (a.put o0.dst v) w->Q (.panic c) a w)
  (aY:∀ U,U∈L0->∀ o0,ops[U]?=some o0->∀ e,a_H ks U=some e->∀ W x,(∀ H,H∈ks->(o0.looksAt ops).contains H.t=true->H.φ (x H.k) W)->∃ v,e.φ v W/\Yields P ops o0 v (G x))
  (hY:∀ U,U∈L0->∀ o0,ops[U]?=some o0->a_H ks U=none->∀ x,(∀ e,e∈ks->(o0.looksAt ops).contains e.t=true->∃ W,e.φ (x e.k) W)->∃ v,(∀ t,o0.dst=some t->(G x).tmps[t]?=some v)/\Yields P ops o0 v (G x)) (hK:g_R ops ks m n=true)
  (hφ:∀ e,e∈ks->∀ v W W',e.φ v W->Below W.heap.size W W'->e.φ v W') (hG:∀ x,G x=b_l ks x G0) (hn:G0.tmps.size=n)
  (a1:∀ x i o,i < m->ops[i]?=some o->g_h P ops w ks (g_Q P ops w ks c T x) x (G x) i o)
  (ht:∀ W x,Below w.heap.size w W->(∀ e,e∈ks->e.φ (x e.k) W)->(∀ e H,e∈ks->H∈ks->e.k∈fc->H.k∈fa->∀ b,aa (x e.k)=some b->aa (x H.k)≠some b)->wpList P ops Q (ops.toList.drop m) (G x) W):
  ∀ (fuel:Nat) (E:Array Bool) (s:Act) (W:World) (x:Nat->Value),E.toList.count false=fuel->InvR ops w ks m (G x) E s W x->(∀ e H,e∈ks->H∈ks->e.k∈fc->H.k∈fa->E.getD e.k false=true->E.getD H.k false=true->∀ b,aa (x e.k)=some b->aa (x H.k)≠some b)->wpAny P .any ops Q fuel E s W:=by
 simp only [h_R,Bool.and_eq_true,decide_eq_true_eq] at hB;obtain ⟨⟨⟨⟨⟨hm,aE⟩,aH⟩,aK⟩,hX⟩,bi⟩:=hB
 have a6:∀ U,U∈L0->U < m/\∃ o0,ops[U]?=some o0/\∀ e∈o0.after,Region.binds .any e=true->e.on∉L0:=fun U hi=>by
  have h:=List.all_eq_true.1 bi U hi;cases ho:ops[U]? with
  | none=>rw [ho] at h;simp at h
  | some o0=>
   rw [ho] at h;simp only [Bool.and_eq_true,decide_eq_true_eq] at h;refine ⟨h.1,o0,rfl,fun e he aO=>?_⟩;have O:=Array.all_eq_true_iff_forall_mem.1 h.2 e he;simpa [aO] using O
 simp only [g_R,Bool.and_eq_true,decide_eq_true_eq] at hK;obtain ⟨⟨hK,bp⟩,bc⟩:=hK
 have af:∀ e,e∈ks->e.k < m/\e.t < n/\(ops[e.k]?).bind (·.dst)=some e.t:=by
  intro e he;have:=List.all_eq_true.1 hK e he;simp only [Bool.and_eq_true,decide_eq_true_eq,beq_iff_eq] at this;exact ⟨this.1.1,this.1.2,this.2⟩
 have hb:∀ i o,ops[i]?=some o->∀ e∈o.after,Region.binds .any e=true->e.on < i:=by
  intro i o ho e he bm;have:=List.all_eq_true.1 aH i (List.mem_range.2 (Array.getElem?_eq_some_iff.1 ho).1);simp only [ho,Bool.and_eq_true] at this;have O:=Array.all_eq_true_iff_forall_mem.1 this.1 e he;simpa [bm] using O
 have hT:∀ i o,ops[i]?=some o->∀ j,m<=j->j < i->a_Z o j=true:=by
  intro i o ho j hj aV;have:=List.all_eq_true.1 aH i (List.mem_range.2 (Array.getElem?_eq_some_iff.1 ho).1);simp only [ho,Bool.and_eq_true] at this;have:=List.all_eq_true.1 this.2 j (List.mem_range.2 aV);simp only [Bool.or_eq_true,decide_eq_true_eq] at this;rcases this with h|h
  ·omega
  ·exact h
 have hS:m < ops.size->∀ j,j < m->j∉L0->∃ k o,j < k/\k<=m/\k∉L0/\ops[k]?=some o/\a_Z o j=true:=by
  intro bb j hj a5;rw [Bool.or_eq_true] at aK;rcases aK with h|h
  ·simp at h;omega
  ·have h0:=List.all_eq_true.1 h j (List.mem_range.2 hj);rw [Bool.or_eq_true] at h0;have h0:=h0.resolve_left (by simpa using a5);obtain ⟨k,hk,O⟩:=List.any_eq_true.1 h0;simp only [Bool.and_eq_true,decide_eq_true_eq] at O;have aI:k < ops.size:=by have:=List.mem_range.1 hk;omega
   have ho:ops[k]?=some ops[k]:=Array.getElem?_eq_getElem aI;rw [ho] at O;exact ⟨k,_,O.1.1,by have:=List.mem_range.1 hk;omega,O.1.2,ho,O.2⟩
 have aC:∀ i o,i < m->ops[i]?=some o->∀ j t,j < m->(ops[j]?).bind (·.dst)=some t->(t∈o.looksAt ops->a_Z o j=true)/\(i≠j->o.dst≠some t):=by
  intro i o hi ho j t hj hd;have:=List.all_eq_true.1 hX i (List.mem_range.2 hi);simp only [ho] at this;have:=List.all_eq_true.1 this j (List.mem_range.2 hj);simp only [hd,Bool.and_eq_true,Bool.or_eq_true,bne_iff_ne,beq_iff_eq,Bool.not_eq_true',List.contains_eq_mem,decide_eq_false_iff_not] at this;refine ⟨fun hl=>?_,fun ah=>?_⟩
  ·rcases this.1 with h|h
   ·exact absurd hl h
   ·exact h.1
  ·rcases this.2 with h|h
   ·exact absurd h ah
   ·exact h
 have ai:∀ x,(G x).tmps.size=n:=fun x=>by rw [hG,e_u];exact hn
 have a8:∀ x e,e∈ks->(G x).tmps[e.t]?=some (x e.k):=fun x e he=>by
  rw [hG];exact g_P x ks G0 bp e he (by rw [hn];exact (af e he).2.1)
 intro fuel
 induction fuel with
 | zero=>
  intro E s W x hc J hA
  have bt:m=ops.size:=by
   rcases Nat.lt_or_ge m ops.size with c|c
   ·exact absurd (J.head m (Nat.le_refl _) c) (b_t hc m)
   ·omega
  have L:∀ j,j < m->E.getD j false=true:=fun j hj=>d_6 (by rw [J.size];omega) (b_t hc j);rw [J.all L];have h:=ht W x J.below (fun e he=>J.told e he (L _ (af e he).1)) (fun e H he M hf ao=>hA e H he M hf ao (L _ (af e he).1) (L _ (af H M).1));rw [List.drop_eq_nil_of_le (by simp;omega)] at h;refine ⟨?_,h⟩;refine List.eq_nil_iff_forall_not_mem.2 fun i hi=>?_;exact b_t hc i (mem_ready.1 hi).1
 | succ fuel ih=>
  intro E s W x hc J hA;by_cases hE:∃ U,U∈L0/\U∈Region.ready .any ops E
  ·obtain ⟨U,an,hE⟩:=hE;obtain ⟨aF,o0,ad,L⟩:=mem_ready.1 hE;have aS:=(a6 U an).1;replace aP:=aP U an o0 ad;replace hQ:=hQ U an o0 ad;replace hY:=hY U an o0 ad;replace aY:=aY U an o0 ad
   have av:∀ t,t∈o0.looksAt ops->s.tmps[t]?=(G x).tmps[t]?:=fun t ak=>
    J.slot t fun j oj hj ab hd=>a_o ((aC U o0 aS ad j t hj (by rw [ab];exact hd)).1 ak) L
   have he:=c_g (ops:=ops) (Region.noSelect_spec aE U o0 · · ad) av;have ar:=b_y av;cases aR:a_H ks U with
   | none=>
    have a9:=aR
    obtain ⟨v,hv,hy⟩:=hY a9 x fun e R ak=>by
     obtain ⟨O,_,h3⟩:=af e R;exact ⟨W,J.told e R (a_o ((aC U o0 aS ad e.k e.t O h3).1 (by simpa using ak)) L)⟩
    have aW:Yields P ops o0 v s:=by
     rcases hy with ⟨O,h2⟩|⟨O,h2⟩
     ·exact .inl ⟨ar.trans O,fun w=>by rw [he];exact h2 w⟩
     ·exact .inr ⟨ar.trans O,h2⟩
    refine wpAny_first (md:=.any) ad (Region.noSelect_spec aE) (fun c a w h=>hQ c a w v h) fuel E s W (fun j oj hj ah aL aX=>aP j oj hj ah (by
     cases aq:a_Z o0 j with
     | false=>rfl
     | true=>
      have O:=a_o aq L;have h2:=(b_e aL).2;rw [O] at h2;cases h2) (by
     cases aq:a_Z oj U with
     | false=>rfl
     | true=>
      unfold a_Z at aq;obtain ⟨e,aj,ac⟩:=Array.any_eq_true'.1 aq;simp only [Bool.and_eq_true,beq_iff_eq] at ac;exact absurd ac.2 (aX e aj ac.1))) hE aW ?_
    have aB:=d_S a9
    have I:∀ e,e∈ks->e.k≠U->(E.setIfInBounds U true).getD e.k false=true->E.getD e.k false=true:=fun e _ ah h=>by
     rw [getD_set_ne false (Ne.symm ah)] at h;exact h
    refine ih _ _ W x (a_2 aF hc) ⟨by simpa using J.size,fun j hj aA=>by rw [getD_set_ne true (by omega)];exact J.head j hj aA,by rw [a_K];exact J.fsize,by rw [b_s];exact J.fdef,fun t ag=>?_,J.below,fun e R hl=>J.told e R (I e R (aB e R) hl),b_A ad L J.closed⟩ (fun e H he M hf ao O h2=>hA e H he M hf ao (I e he (aB e he) O) (I H M (aB H M) h2));by_cases hd:o0.dst=some t
    ·rw [hv t hd,hd];exact b_F (by rw [J.fsize];exact (Array.getElem?_eq_some_iff.1 (hv t hd)).1)
    ·rw [a_7 hd];refine J.slot t fun j oj hj ab am=>?_;have:=ag j oj hj ab am;by_cases c:U=j
     ·subst c;rw [ad] at ab;cases ab;exact absurd am hd
     ·rw [getD_set_ne false c] at this;exact this
   | some e=>
    obtain ⟨R,aU⟩:=b_Q aR;subst aU;have aJ:o0.dst=some e.t:=by have:=(af e R).2.2;rw [ad] at this;exact this
    have ax:∀ H,H∈ks->H.k=e.k->H=e:=fun H M hk=>by
     have O:=d_w ks bc H M;rw [hk,aR] at O;exact (Option.some.inj O).symm
    obtain ⟨v,hv,hy⟩:=aY e aR W x fun H V ak=>by
     obtain ⟨O,_,h3⟩:=af H V;exact J.told H V (a_o ((aC e.k o0 aS ad H.k H.t O h3).1 (by simpa using ak)) L)
    have aW:Yields P ops o0 v s:=by
     rcases hy with ⟨O,h2⟩|⟨O,h2⟩
     ·exact .inl ⟨ar.trans O,fun w=>by rw [he];exact h2 w⟩
     ·exact .inr ⟨ar.trans O,h2⟩
    refine wpAny_first (md:=.any) ad (Region.noSelect_spec aE) (fun c a w h=>hQ c a w v h) fuel E s W (fun j oj hj ah aL aX=>aP j oj hj ah (by
     cases aq:a_Z o0 j with
     | false=>rfl
     | true=>
      have O:=a_o aq L;have h2:=(b_e aL).2;rw [O] at h2;cases h2) (by
     cases aq:a_Z oj e.k with
     | false=>rfl
     | true=>
      unfold a_Z at aq;obtain ⟨e,aj,ac⟩:=Array.any_eq_true'.1 aq;simp only [Bool.and_eq_true,beq_iff_eq] at ac;exact absurd ac.2 (aX e aj ac.1))) hE aW ?_
    have I:∀ H,H∈ks->H.k≠e.k->(E.setIfInBounds e.k true).getD H.k false=true->E.getD H.k false=true:=fun H _ ah h=>by
     rw [getD_set_ne false (Ne.symm ah)] at h;exact h
    refine ih _ _ W (upd x e.k v) (a_2 aF hc) ⟨by simpa using J.size,fun j hj aA=>by rw [getD_set_ne true (by omega)];exact J.head j hj aA,by rw [a_K,J.fsize,ai,ai],by rw [b_s,J.fdef,hG,hG,b_N,b_N],fun t ag=>?_,J.below,fun H V hl=>?_,b_A ad L J.closed⟩ (fun e1 e2 aj ac az au l1 l2=>by
     have n1:e1.k≠e.k:=fun h=>(bd _ an).1 (h ▸ az);have n2:e2.k≠e.k:=fun h=>(bd _ an).2 (h ▸ au);show ∀ b,aa (if e1.k=e.k then v else x e1.k)=some b->aa (if e2.k=e.k then v else x e2.k)≠some b;rw [if_neg n1,if_neg n2];exact hA e1 e2 aj ac az au (I e1 aj n1 l1) (I e2 ac n2 l2))
    ·by_cases hd:o0.dst=some t
     ·rw [hd];obtain rfl:e.t=t:=by rw [aJ] at hd;exact Option.some.inj hd
      rw [a8 _ e R,b_F (by rw [J.fsize,ai];exact (af e R).2.1)];show some v=some (if e.k=e.k then v else x e.k);rw [if_pos rfl]
     ·rw [a_7 hd,hG,d_8 x e.k v t ks G0 G0 rfl rfl (fun H M aI hh=>hd (by rw [aJ,<- hh,ax H M aI])),<- hG];refine J.slot t fun j oj hj ab am=>?_;have:=ag j oj hj ab am;by_cases c:e.k=j
      ·subst c;rw [ad] at ab;cases ab;exact absurd am hd
      ·rw [getD_set_ne false c] at this;exact this
    ·by_cases c:H.k=e.k
     ·obtain rfl:=ax H V c;show H.φ (if H.k=H.k then v else x H.k) W;rw [if_pos rfl];exact hv
     ·show H.φ (if H.k=e.k then v else x H.k) W;rw [if_neg c];exact J.told H V (I H V c hl)
  refine ⟨fun hr=>by
   obtain ⟨i,hi⟩:=d_v hc;exact absurd hr (c_L J.size hb i hi),fun i hi=>?_⟩
  obtain ⟨aF,o,ho,L⟩:=mem_ready.1 hi;have bf:i < ops.size:=(Array.getElem?_eq_some_iff.1 ho).1;rcases Nat.lt_or_ge i m with aG|aG
  ·have av:∀ t,t∈o.looksAt ops->s.tmps[t]?=(G x).tmps[t]?:=fun t ak=>
    J.slot t fun j oj hj ab hd=>a_o ((aC i o aG ho j t hj (by rw [ab];exact hd)).1 ak) L
   have he:=c_g (ops:=ops) (Region.noSelect_spec aE i o · · ho) av;have ar:=b_y av
   have ap:b_V ops ks o x (e_t W):=fun e R ak d=>by
    obtain ⟨O,_,h3⟩:=af e R;have hl:=a_o ((aC i o aG ho e.k e.t O h3).1 (by simpa using ak)) L;exact hφ e R _ _ _ (J.told e R hl) (a_V W d)
   have aw:=a1 x i o aG ho;unfold g_h at aw;obtain ⟨d0,aN⟩:=d_u (Below.refl W.heap.size W)
   have I:∀ e,e∈ks->e.k≠i->(E.setIfInBounds i true).getD e.k false=true->E.getD e.k false=true:=fun e _ ah h=>by
    rw [getD_set_ne false (Ne.symm ah)] at h;exact h
   unfold wpOp;simp only [ho];cases aM:a_H ks i with
   | none=>
    rw [aM] at aw;replace aw:=aw (e_t W) (c_9 J.below) ap;have aB:=d_S aM
    have ae:∀ (v:Value) (W':World),(∀ t,o.dst=some t->(G x).tmps[t]?=some v)->Below W.heap.size W W'->wpAny P .any ops Q fuel (E.setIfInBounds i true) (s.put o.dst v) W':=by
     intro v W' hv be;refine ih _ _ W' x (a_2 aF hc) ⟨by simpa using J.size,fun j hj aA=>by rw [getD_set_ne true (by omega)];exact J.head j hj aA,by rw [a_K];exact J.fsize,by rw [b_s];exact J.fdef,fun t ag=>?_,J.below.trans (be.mono J.below.size),fun e R hl=>hφ e R _ _ _ (J.told e R (I e R (aB e R) hl)) be,b_A ho L J.closed⟩ (fun e H he M hf ao O h2=>hA e H he M hf ao (I e he (aB e he) O) (I H M (aB H M) h2));by_cases hd:o.dst=some t
     ·rw [hv t hd,hd];exact b_F (by rw [J.fsize];exact (Array.getElem?_eq_some_iff.1 (hv t hd)).1)
     ·rw [a_7 hd];refine J.slot t fun j oj hj ab am=>?_;have:=ag j oj hj ab am;by_cases c:i=j
      ·subst c;rw [ho] at ab;cases ab;exact absurd am hd
      ·rw [getD_set_ne false c] at this;exact this
    rcases aw with ⟨hw,v,hv,hq⟩|⟨hw,hu⟩
    ·rw [if_pos (ar.trans hw)]
     left
     have hq:=hq d0;rw [<- aN] at hq;unfold Oper.wp;unfold Oper.quietAt at hq;rw [he];generalize (execOp (G x).eval o).run P W=r at hq;cases r with
     | halt x w'=>exact hq.elim
     | ok n w'=>
      cases n <;> simp only [Oper.quietUpon] at hq <;> simp only [Oper.upon]
      case value u=>
       obtain ⟨e1,e2⟩:=hq;rw [e1,e2];exact ae v W hv (Below.refl _ _)
      case skip=>
       obtain ⟨e1,e2⟩:=hq;rw [e1,<- e2];exact ae v W hv (Below.refl _ _)
      case enter f args=>
       obtain ⟨e1,hc⟩:=hq;rw [e1];exact hc.mono fun e aQ ⟨he,d,a3⟩=>by subst he;rw [a3];exact ae v _ hv (a_V W d)
    ·rw [if_neg (by rw [ar,hw];exact Bool.false_ne_true)];exact ae undef W hu (Below.refl _ _)
   | some e=>
    rw [aM] at aw;obtain ⟨R,aU⟩:=b_Q aM;subst aU;have aJ:o.dst=some e.t:=by have:=(af e R).2.2;rw [ho] at this;exact this
    have ax:∀ H,H∈ks->H.k=e.k->H=e:=fun H M hk=>by
     have O:=d_w ks bc H M;rw [hk,aM] at O;exact (Option.some.inj O).symm
    have ae:∀ (v:Value) (W':World),e.φ v W'->Below w.heap.size w W'->(∀ H,H∈ks->H.k≠e.k->E.getD H.k false=true->∀ u,H.φ u W->H.φ u W')->((e.k∈fc->∀ b,aa v=some b->W.heap.size<=b∨∃ e0,e0∈ks/\e0.k∈fc/\(o.looksAt ops).contains e0.t=true/\aa (x e0.k)=some b)/\(e.k∈fa->∀ b,aa v=some b->W.heap.size<=b))->wpAny P .any ops Q fuel (E.setIfInBounds e.k true) (s.put o.dst v) W':=by
     intro v W' hv bq a0 a4
     refine ih _ _ W' (upd x e.k v) (a_2 aF hc) ⟨by simpa using J.size,fun j hj aA=>by rw [getD_set_ne true (by omega)];exact J.head j hj aA,by rw [a_K,J.fsize,ai,ai],by rw [b_s,J.fdef,hG,hG,b_N,b_N],fun t ag=>?_,bq,fun H V hl=>?_,b_A ho L J.closed⟩ (fun e1 e2 aj ac az au l1 l2=>by
      show ∀ b,aa (if e1.k=e.k then v else x e1.k)=some b->aa (if e2.k=e.k then v else x e2.k)≠some b;intro b;by_cases c1:e1.k=e.k
      ·have c2:e2.k≠e.k:=fun h=>aT e1.k az (by rw [c1,<- h];exact au);rw [if_pos c1,if_neg c2];intro h h';have p2:=a2 e2 ac (.inr au) _ _ (J.told e2 ac (I e2 ac c2 l2)) b h';rcases a4.1 (c1 ▸ az) b h with p1|⟨e0,k0,f0,g0,h0⟩
       ·omega
       ·obtain ⟨q1,_,q3⟩:=af e0 k0;exact hA e0 e2 k0 ac f0 au (a_o ((aC e.k o aG ho e0.k e0.t q1 q3).1 (by simpa using g0)) L) (I e2 ac c2 l2) b h0 h'
      ·rw [if_neg c1];by_cases c2:e2.k=e.k
       ·rw [if_pos c2];intro h h';have p1:=a4.2 (c2 ▸ au) b h';have p2:=a2 e1 aj (.inl az) _ _ (J.told e1 aj (I e1 aj c1 l1)) b h;omega
       ·rw [if_neg c2];exact hA e1 e2 aj ac az au (I e1 aj c1 l1) (I e2 ac c2 l2) b)
     ·by_cases hd:o.dst=some t
      ·rw [hd];obtain rfl:e.t=t:=by rw [aJ] at hd;exact Option.some.inj hd
       rw [a8 _ e R,b_F (by rw [J.fsize,ai];exact (af e R).2.1)];show some v=some (if e.k=e.k then v else x e.k);rw [if_pos rfl]
      ·rw [a_7 hd,hG,d_8 x e.k v t ks G0 G0 rfl rfl (fun H M aI hh=>hd (by rw [aJ,<- hh,ax H M aI])),<- hG];refine J.slot t fun j oj hj ab am=>?_;have:=ag j oj hj ab am;by_cases c:e.k=j
       ·subst c;rw [ho] at ab;cases ab;exact absurd am hd
       ·rw [getD_set_ne false c] at this;exact this
     ·by_cases c:H.k=e.k
      ·obtain rfl:=ax H V c;show H.φ (if H.k=H.k then v else x H.k) W';rw [if_pos rfl];exact hv
      ·show H.φ (if H.k=e.k then v else x H.k) W';rw [if_neg c];exact a0 H V c (I H V c hl) _ (J.told H V (I H V c hl))
    rcases Decidable.em (e.k=c) with ay|ay
    ·obtain ⟨hw,hz⟩:=aw.2 ay;rw [if_pos (ar.trans hw)]
     left
     have hy:=hz W J.below fun H V ak _=>J.told H V (by obtain ⟨O,_,h3⟩:=af H V;exact a_o ((aC e.k o aG ho H.k H.t O h3).1 (by simpa using ak)) L)
     have aD:∀ (v:Value) (W':World),(e.φ v W'/\Below w.heap.size w W'/\T W W')->wpAny P .any ops Q fuel (E.setIfInBounds e.k true) (s.put o.dst v) W':=fun v W' ⟨O,h2,h3⟩=>ae v W' O h2 (fun H M ah br u hu=>bj H M (by rw [<- ay];exact ah) (fun hd=>by
      have h7:=(b_e aF).2;rw [ay,b_d hb J.closed hD _ hd br] at h7;cases h7) u W W' hu J.below h3) ⟨fun h=>absurd h (bg e R ay).1,fun h=>absurd h (bg e R ay).2⟩
     unfold Oper.wp;unfold b_P at hy;rw [he];generalize (execOp (G x).eval o).run P W=r at hy;cases r with
     | halt x w'=>exact hy.elim
     | ok n w'=>
      cases n <;> simp only [b_O] at hy <;> simp only [Oper.upon]
      case value u=>exact aD u w' hy
      case skip=>exact aD undef w' hy
      case enter f args=>
       obtain ⟨e1,hc⟩:=hy;rw [e1];exact hc.mono fun H aQ ⟨v,M,O⟩=>by subst M;exact aD v aQ O
    obtain ⟨hw,hy⟩:=aw.1 ay (e_t W) (c_9 J.below) ap;rw [if_pos (ar.trans hw)]
    left
    have hy:=hy d0;rw [<- aN] at hy
    have hy:a_k P o (G x) W fun v W'=>e.φ v W'/\((e.k∈fc->∀ b,aa v=some b->W.heap.size<=b∨∃ e0,e0∈ks/\e0.k∈fc/\(o.looksAt ops).contains e0.t=true/\aa (x e0.k)=some b)/\(e.k∈fa->∀ b,aa v=some b->W.heap.size<=b)):=by
     by_cases hf:e.k∈fc
     ·have O:=bl e R hf o ho x (e_t W) (c_9 J.below) ap d0;rw [<- aN] at O;exact b_f (fun v W' h=>⟨h.1,fun _=>h.2,fun h'=>absurd h' (aT _ hf)⟩) O
     ·by_cases ao:e.k∈fa
      ·have O:=bk e R ao o ho x (e_t W) (c_9 J.below) ap d0;rw [<- aN] at O;exact b_f (fun v W' h=>⟨h.1,fun h'=>absurd h' hf,fun _=>h.2⟩) O
      ·exact b_f (fun v W' h=>⟨h,fun h'=>absurd h' hf,fun h'=>absurd h' ao⟩) hy
    replace ae:∀ (v:Value) (W':World),e.φ v W'->Below W.heap.size W W'->((e.k∈fc->∀ b,aa v=some b->W.heap.size<=b∨∃ e0,e0∈ks/\e0.k∈fc/\(o.looksAt ops).contains e0.t=true/\aa (x e0.k)=some b)/\(e.k∈fa->∀ b,aa v=some b->W.heap.size<=b))->wpAny P .any ops Q fuel (E.setIfInBounds e.k true) (s.put o.dst v) W':=fun v W' O h2 h3=>ae v W' O (J.below.trans (h2.mono J.below.size)) (fun H M _ _ u hu=>hφ H M _ _ _ hu h2) h3;unfold Oper.wp;unfold a_k at hy;rw [he];generalize bs:(execOp (G x).eval o).run P W=r at hy;cases r with
    | halt x w'=>exact hy.elim
    | ok n w'=>
     cases n <;> simp only [a_f] at hy <;> simp only [Oper.upon]
     case value u=>exact ae u w' hy.1.1 hy.2 hy.1.2
     case skip=>exact ae undef w' hy.1.1 hy.2 hy.1.2
     case enter f args=>
      obtain ⟨e1,hc⟩:=hy;rw [e1]
      exact hc.mono fun H aQ ⟨v,M,O,h2⟩=>by
       subst M;exact ae v aQ O.1 h2 O.2
  ·obtain rfl:i=m:=by
    rcases Nat.lt_or_ge m i with c|c
    ·have O:=a_o (hT i o ho m (Nat.le_refl _) c) L;have h2:=(b_e (J.head m (Nat.le_refl _) (by omega))).2;rw [O] at h2;cases h2
    ·omega
   have ba:∀ d j,i - j=d->j < i->j∉L0->E.getD j false=true:=by
    intro d
    induction d using Nat.strongRecOn with
    | _ d ihd=>
     intro j hd hj aV;obtain ⟨k,ok,bu,hk,bo,aZ,bh⟩:=hS bf j hj aV;rcases Nat.lt_or_ge k i with c|c
     ·have:=ihd (i - k) (by omega) k rfl c bo;exact a_o bh (J.closed k ok aZ this)
     ·obtain rfl:k=i:=by omega
      rw [ho] at aZ;cases aZ;exact a_o bh L
   have bn:∀ U,U∈L0->E.getD U false=true:=fun U an=>by
    obtain ⟨aS,o0,ad,a7⟩:=a6 U an;rcases Bool.eq_false_or_eq_true (E.getD U false) with h|h
    ·exact h
    ·exfalso;apply hE;refine ⟨U,an,mem_ready.2 ⟨?_,o0,ad,fun e he aO=>ba _ e.on rfl (by have:=hb U o0 ad e he aO;omega) (a7 e he aO)⟩⟩;have bb:U < E.size:=by rw [J.size];omega
     rw [Array.getD_eq_getD_getElem?,Array.getElem?_eq_getElem bb] at h ⊢;exact h
   have hl:∀ j,j < i->E.getD j false=true:=fun j hj=>by
    by_cases c:j∈L0
    ·exact bn j c
    ·exact ba _ j rfl hj c
   have hs:=J.all hl;have h:=ht W x J.below (fun e he=>J.told e he (hl _ (af e he).1)) (fun e H he M hf ao=>hA e H he M hf ao (hl _ (af e he).1) (hl _ (af H M).1));rw [<- hs] at h;exact (g_O (P:=P) (Q:=Q) hb hT (fuel+1) i E s W J.size (Nat.le_refl _) hc hl J.head h).2 i hi
/-- THE LAW: the first m operations read, call, or make memory, but for number c, which may write what was made since; those that are told (ks) hand back what differs from world to world; told rows (fc) lie apart from blocks that are made (fa); the rest waits for all. -/
theorem t_I {id:Nat} (c:Nat) (T:World->World->Prop) {a:Act} {w:World} {l:List Oper} (ks:List Told) (m n:Nat) (hm:P.follows .mixedOrders=true) (hn:a.tmps.size=n) (M:l=ops.toList.take m) (V:List Nat) (hB:(h_R ops V m && c_2 ops n l)=true) (ar:(V.all fun E=>h_Q ops E)=true)
  (hQ:∀ E,E∈V->∀ L,ops[E]?=some L->∀ c a w v,Q (.panic c) (a.put L.dst v) w->Q (.panic c) a w) (hK:g_R ops ks m n=true) (U fa:List Nat) (I:Value->Option Nat) (ah:∀ e,e∈ks->e.k∈U∨e.k∈fa->∀ v W,e.φ v W->∀ b,I v=some b->b < W.heap.size) (ae:∀ k,k∈U->k∉fa) (ag:∀ E,E∈V->E∉U/\E∉fa) (ap:∀ e,e∈ks->e.k=c->e.k∉U/\e.k∉fa) (D:List Nat) (hD:i_y ops c D=true) (aj:∀ e,e∈ks->e.k≠c->e.k∉D->∀ v W W',e.φ v W->Below w.heap.size w W->T W W'->e.φ v W')
  (hφ:∀ e,e∈ks->∀ v W W',e.φ v W->Below W.heap.size W W'->e.φ v W')
  (h:∃ G:(Nat->Value)->Act,(∀ E,E∈V->∀ L,ops[E]?=some L->∀ e,a_H ks E=some e->∀ W x,(∀ O,O∈ks->(L.looksAt ops).contains O.t=true->O.φ (x O.k) W)->∃ v,e.φ v W/\Yields P ops L v (G x))/\(∀ E,E∈V->∀ L,ops[E]?=some L->a_H ks E=none->∀ x,(∀ e,e∈ks->(L.looksAt ops).contains e.t=true->∃ W,e.φ (x e.k) W)->∃ v,(∀ t,L.dst=some t->(G x).tmps[t]?=some v)/\Yields P ops L v (G x))/\(∀ x,b_Y P ops w ks (g_Q P ops w ks c T x) x (G x) 0 l a)/\(∀ x,G x=b_l ks x (G fun _=>undef))/\(∀ e,e∈ks->e.k∈U->∀ o,ops[e.k]?=some o->∀ x F,Fam w F->b_V ops ks o x F->∀ d,a_k P o (G x) (F d) fun v W'=>e.φ v W'/\∀ b,I v=some b->(F d).heap.size<=b∨∃ e0,e0∈ks/\e0.k∈U/\(o.looksAt ops).contains e0.t=true/\I (x e0.k)=some b)/\(∀ e,e∈ks->e.k∈fa->∀ o,ops[e.k]?=some o->∀ x F,Fam w F->b_V ops ks o x F->∀ d,a_k P o (G x) (F d) fun v W'=>e.φ v W'/\∀ b,I v=some b->(F d).heap.size<=b)/\
   ∀ W x,Below w.heap.size w W->(∀ e,e∈ks->e.φ (x e.k) W)->(∀ e O,e∈ks->O∈ks->e.k∈U->O.k∈fa->∀ b,I (x e.k)=some b->I (x O.k)≠some b)->wpList P ops Q (ops.toList.drop m) (G x) W):(Code.region id ops true).wp P Q a w:=by
 obtain ⟨G,an,hY,h1,h2,am,ak,h3⟩:=h;rw [Bool.and_eq_true] at hB;have ad:=hB.1;simp only [h_R,Bool.and_eq_true,decide_eq_true_eq] at ad;have R:=hK;simp only [g_R,Bool.and_eq_true,decide_eq_true_eq] at R
 have hk:∀ j e,a_H ks (0+j)=some e->∀ o,l[j]?=some o->o.dst=some e.t:=by
  intro j e he o J;obtain ⟨aq,aa⟩:=b_Q he;have:=List.all_eq_true.1 R.1.1 e aq;simp only [Bool.and_eq_true,decide_eq_true_eq,beq_iff_eq] at this;have af:j < m:=by rw [Nat.zero_add] at aa;rw [<- aa];exact this.1.1
  rw [M,List.getElem?_take_of_lt af] at J;have h4:=this.2;rw [aa,Nat.zero_add,show ops[j]?=some o by simpa using J] at h4;exact h4
 have ac:∀ o,o∈l->∀ cs b,o.op≠.select cs b:=by
  intro o J cs b;rw [M] at J;obtain ⟨j,hj,e⟩:=List.getElem_of_mem (List.mem_of_mem_take J);exact Region.noSelect_spec ad.1.1.1.1.2 j o cs b (by rw [<- e];simp at hj ⊢)
 have au:∀ x,(G x).tmps.size=n:=fun x=>by rw [(f_s l 0 a hk (h1 x)).1,hn]
 have ab:=f_s l 0 a hk (h1 fun _=>undef);refine wp_region_any hm (n_T (c:=c) (T:=T) (w:=w) (ks:=ks) (m:=m) (n:=n) (G:=G) (G0:=G fun _=>undef) V U fa I am ak ah ae ap D hD aj ag hB.1 (fun E hi L ai=>n_S ai (List.all_eq_true.1 ar E hi)) hQ an hY hK hφ h2 (au _) (fun x i o hi J=>?_) h3 _ _ _ _ (fun _=>undef) ?_ ⟨by simp,fun j _ hj=>by simp [hj],ab.1.symm,ab.2.1.symm,fun t hc=>?_,⟨rfl,rfl,rfl,Nat.le_refl _,fun _ _=>rfl⟩,fun e he M=>?_,fun j o J M=>?_⟩ (fun e O he _ _ _ M _=>?_))
 ·have:=l_E (fun i o a e he hw h=>k_B he hw h) n l 0 a hn ac hB.2 hk (h1 x) i o (by rw [M,List.getElem?_take_of_lt hi];simpa using J);rw [Nat.zero_add] at this;exact this
 ·simp
 ·refine (ab.2.2 t fun ao=>?_).symm;obtain ⟨o,J,hd⟩:=List.mem_filterMap.1 ao;rw [M] at J;obtain ⟨j,hj,e⟩:=List.getElem_of_mem J;simp at hj e;have H:j < ops.size:=by omega
  have:=hc j o (by omega) (by rw [Array.getElem?_eq_getElem H,e]) hd;simp [H] at this
 ·have:=List.all_eq_true.1 R.1.1 e he;simp only [Bool.and_eq_true,decide_eq_true_eq,beq_iff_eq] at this;have H:e.k < ops.size:=by have:=this.1.1;omega
  simp [H] at M
 ·have H:j < ops.size:=(Array.getElem?_eq_some_iff.1 J).1;simp [H] at M
 ·have:=List.all_eq_true.1 R.1.1 e he;simp only [Bool.and_eq_true,decide_eq_true_eq,beq_iff_eq] at this;have H:e.k < ops.size:=by have:=this.1.1;omega
  simp [H] at M
/-- THE LAW: the first m operations read, call, or make memory; those that are told (ks) hand back what differs from world to world; told rows (fc) lie apart from blocks that are made (fa); the rest waits for all. -/
theorem s_U {id:Nat} {a:Act} {w:World} {l:List Oper} (ks:List Told) (m n:Nat) (hm:P.follows .mixedOrders=true) (hn:a.tmps.size=n) (hl:l=ops.toList.take m) (J:List Nat) (hB:(h_R ops J m && c_2 ops n l)=true) (ad:(J.all fun D=>h_Q ops D)=true)
  (hQ:∀ D,D∈J->∀ H,ops[D]?=some H->∀ c a w v,Q (.panic c) (a.put H.dst v) w->Q (.panic c) a w) (hK:g_R ops ks m n=true) (L M:List Nat) (E:Value->Option Nat) (aa:∀ e,e∈ks->e.k∈L∨e.k∈M->∀ v W,e.φ v W->∀ b,E v=some b->b < W.heap.size) (R:∀ k,k∈L->k∉M) (V:∀ D,D∈J->D∉L/\D∉M)
  (hφ:∀ e,e∈ks->∀ v W W',e.φ v W->Below W.heap.size W W'->e.φ v W')
  (h:∃ G:(Nat->Value)->Act,(∀ D,D∈J->∀ H,ops[D]?=some H->∀ e,a_H ks D=some e->∀ W x,(∀ I,I∈ks->(H.looksAt ops).contains I.t=true->I.φ (x I.k) W)->∃ v,e.φ v W/\Yields P ops H v (G x))/\(∀ D,D∈J->∀ H,ops[D]?=some H->a_H ks D=none->∀ x,(∀ e,e∈ks->(H.looksAt ops).contains e.t=true->∃ W,e.φ (x e.k) W)->∃ v,(∀ t,H.dst=some t->(G x).tmps[t]?=some v)/\Yields P ops H v (G x))/\(∀ x,d_R P ops w ks x (G x) 0 l a)/\(∀ x,G x=b_l ks x (G fun _=>undef))/\(∀ e,e∈ks->e.k∈L->∀ o,ops[e.k]?=some o->∀ x F,Fam w F->b_V ops ks o x F->∀ d,a_k P o (G x) (F d) fun v W'=>e.φ v W'/\∀ b,E v=some b->(F d).heap.size<=b∨∃ U,U∈ks/\U.k∈L/\(o.looksAt ops).contains U.t=true/\E (x U.k)=some b)/\(∀ e,e∈ks->e.k∈M->∀ o,ops[e.k]?=some o->∀ x F,Fam w F->b_V ops ks o x F->∀ d,a_k P o (G x) (F d) fun v W'=>e.φ v W'/\∀ b,E v=some b->(F d).heap.size<=b)/\
   ∀ W x,Below w.heap.size w W->(∀ e,e∈ks->e.φ (x e.k) W)->(∀ e I,e∈ks->I∈ks->e.k∈L->I.k∈M->∀ b,E (x e.k)=some b->E (x I.k)≠some b)->wpList P ops Q (ops.toList.drop m) (G x) W):(Code.region id ops true).wp P Q a w:=by
 obtain ⟨G,ae,hY,h1,h2,ac,ab,h3⟩:=h
 have O:∀ e,e∈ks->e.k < m:=fun e he=>by
  simp only [g_R,Bool.and_eq_true,decide_eq_true_eq] at hK;have:=List.all_eq_true.1 hK.1.1 e he;simp only [Bool.and_eq_true,decide_eq_true_eq,beq_iff_eq] at this;exact this.1.1
 exact t_I m (fun _ _=>False) ks m n hm hn hl J hB ad hQ hK L M E aa R V (fun e he h=>absurd (O e he) (by omega)) [] rfl (fun _ _ _ _ _ _ _ _ _ h=>h.elim) hφ ⟨G,ae,hY,fun x=>f_t (fun i o a e hi h=>by
  obtain ⟨h1,h2⟩:=b_Q hi;have:=O e h1;exact ⟨fun _=>h,fun h=>by omega⟩) (h1 x),h2,ac,ab,h3⟩
theorem t_J {id:Nat} {a:Act} {w:World} {l:List Oper} (ks:List Told) (m n:Nat) (hm:P.follows .mixedOrders=true) (O:a.tmps.size=n) (hl:l=ops.toList.take m) (H:List Nat) (R:(h_R ops H m && c_2 ops n l)=true) (J:(H.all fun D=>h_Q ops D)=true)
  (hQ:∀ D,D∈H->∀ E,ops[D]?=some E->∀ c a w v,Q (.panic c) (a.put E.dst v) w->Q (.panic c) a w) (hK:g_R ops ks m n=true)
  (hφ:∀ e,e∈ks->∀ v W W',e.φ v W->Below W.heap.size W W'->e.φ v W')
  (h:∃ G:(Nat->Value)->Act,(∀ D,D∈H->∀ E,ops[D]?=some E->∀ e,a_H ks D=some e->∀ W x,(∀ I,I∈ks->(E.looksAt ops).contains I.t=true->I.φ (x I.k) W)->∃ v,e.φ v W/\Yields P ops E v (G x))/\(∀ D,D∈H->∀ E,ops[D]?=some E->a_H ks D=none->∀ x,(∀ e,e∈ks->(E.looksAt ops).contains e.t=true->∃ W,e.φ (x e.k) W)->∃ v,(∀ t,E.dst=some t->(G x).tmps[t]?=some v)/\Yields P ops E v (G x))/\(∀ x,d_R P ops w ks x (G x) 0 l a)/\(∀ x,G x=b_l ks x (G fun _=>undef))/\
   ∀ W x,Below w.heap.size w W->(∀ e,e∈ks->e.φ (x e.k) W)->wpList P ops Q (ops.toList.drop m) (G x) W):(Code.region id ops true).wp P Q a w:=by
 obtain ⟨G,L,U,V,M,h3⟩:=h;exact s_U ks m n hm O hl H R J hQ hK [] [] (fun _=>none) (fun _ _ h=>absurd h (by simp)) (fun _ h=>absurd h List.not_mem_nil) (fun _ _=>⟨List.not_mem_nil,List.not_mem_nil⟩) hφ ⟨G,L,U,V,M,fun _ _ h=>absurd h List.not_mem_nil,fun _ _ h=>absurd h List.not_mem_nil,fun W x hb hf _=>h3 W x hb hf⟩
theorem rel {id:Nat} {a:Act} {w:World} {l:List Oper} (ks:List Told) (m n:Nat) (D:P.follows .mixedOrders=true) (H:a.tmps.size=n) (I:l=ops.toList.take m) (L:(h_R ops [] m && c_2 ops n l)=true) (hK:g_R ops ks m n=true)
  (hφ:∀ e,e∈ks->∀ v W W',e.φ v W->Below W.heap.size W W'->e.φ v W')
  (h:∃ G:(Nat->Value)->Act,(∀ x,d_R P ops w ks x (G x) 0 l a)/\(∀ x,G x=b_l ks x (G fun _=>undef))/\
   ∀ W x,Below w.heap.size w W->(∀ e,e∈ks->e.φ (x e.k) W)->wpList P ops Q (ops.toList.drop m) (G x) W):(Code.region id ops true).wp P Q a w:=by
 obtain ⟨G,M,E,J⟩:=h;exact t_J ks m n D H I [] L rfl (fun _ h=>absurd h List.not_mem_nil) hK hφ ⟨G,fun _ h=>absurd h List.not_mem_nil,fun _ h=>absurd h List.not_mem_nil,M,E,J⟩
theorem l_F {id:Nat} {a:Act} {w:World} {l:List Oper} (ks:List Told) (m n:Nat) (hm:P.follows .mixedOrders=true) (U:a.tmps.size=n) (hl:l=ops.toList.take m) (D:Nat) (J:Oper) (L:ops[D]?=some J) (aa:D < m) (M:a_H ks D=none) (V:(h_R ops [D] m && c_2 ops n l)=true) (O:h_Q ops D=true)
  (hQ:∀ c a w v,Q (.panic c) (a.put J.dst v) w->Q (.panic c) a w) (hK:g_R ops ks m n=true)
  (hφ:∀ e,e∈ks->∀ v W W',e.φ v W->Below W.heap.size W W'->e.φ v W')
  (h:∃ G:(Nat->Value)->Act,(∀ x,(∀ e,e∈ks->(J.looksAt ops).contains e.t=true->∃ W,e.φ (x e.k) W)->∃ v,(∀ t,J.dst=some t->(G x).tmps[t]?=some v)/\Yields P ops J v (G x))/\(∀ x,d_R P ops w ks x (G x) 0 l a)/\(∀ x,G x=b_l ks x (G fun _=>undef))/\
   ∀ W x,Below w.heap.size w W->(∀ e,e∈ks->e.φ (x e.k) W)->wpList P ops Q (ops.toList.drop m) (G x) W):(Code.region id ops true).wp P Q a w:=by
 obtain ⟨G,hY,h1,R,h3⟩:=h
 have I:∀ j,j∈[D]->∀ o,ops[j]?=some o->j=D/\o=J:=fun j H o E=>by
  have e:j=D:=by simpa using H
  subst e;rw [L] at E;exact ⟨rfl,(Option.some.inj E).symm⟩
 refine t_J ks m n hm U hl [D] V (by simpa using O) (fun j H o E=>?_) hK hφ ⟨G,fun j H o E e he=>?_,fun j H o E _=>?_,h1,R,h3⟩
 ·obtain ⟨_,rfl⟩:=I j H o E;exact hQ
 ·obtain ⟨rfl,_⟩:=I j H o E;rw [M] at he;cases he
 ·obtain ⟨_,rfl⟩:=I j H o E;exact hY
end
theorem k_C:NumT Tryz.prog 26 48 .i64 8:=⟨Tryz.underlying26,by kernel_rfl⟩
/-- A tensor: a shape, and as many numbers as that has. -/
abbrev isP (d x:List Int):Prop:=goodN (ntl d)/\x.length=a_e (ntl d)
theorem a_d {w D:World} {v:Value} {b o:Nat} (h:w.cell? ⟨b,o,none⟩=some v) (E:Below w.heap.size w D):D.cell? ⟨b,o,none⟩=some v:=a_h E h
theorem p_5 (a b:Int):(a==b)=decide (a=b):=by
 by_cases h:a=b <;> simp [h]
theorem a_B (s t:Value) (d x:List Int) (hd:RI d) (w:World) (V:Nums .i64 w s d) (ht:Nums .i64 w t x):
  Calls Tryz.prog 86 #[.agg #[s,t]] w fun e I=>e = .returned (.bool (decide (isP d x)))/\Below w.heap.size w I:=by
 have L:Hid (Nums .i64 w s d/\RI d):=⟨V,hd⟩
 obtain ⟨p,n,c,rfl,HA⟩:=V.lst;obtain ⟨p2,R,c2,rfl,HB⟩:=ht.lst;have HL:Hid (x.length=R):=HB.out.1;clear V ht hd;by_cases J:goodN (ntl d)
 ·have U:Hid (goodN (ntl d)):=J;obtain ⟨N,O⟩:∃ N,a_e (ntl d)=N:=⟨_,rfl⟩
  have er:decide (isP d x)=((R:Int)==(N:Int)):=by
   rw [p_5];exact decide_eq_decide.2 ⟨fun h=>by have:=h.2;rw [HL.out,O] at this;omega,fun h=>⟨J,by rw [HL.out,O];omega⟩⟩
  rw [er];have HN:Hid (f_e (ntl d)=N):=by show _=_;rw [b_6 J];exact O
  clear er O J;go_enter Tryz.func86,Tryz.ntmps86;go_wp2_with fail
  refine a_P (fun D E=>?_);have M:Below w.heap.size w D:=by rw [E];go_grown
  have H:D.cell? ⟨w.heap.size,0,none⟩=some (.slice p n c)/\D.cell? ⟨w.heap.size,1,none⟩=some (.slice p2 R c2):=by rw [E];simp [go_sem]
  have x0:=H.1;have x1:=H.2;clear E H
  have cg:∀ m,Calls Tryz.prog 74 #[.slice p n c] (D.drewN m) fun e I=>e = .returned (.bool true)/\I=D.drewN m:=fun m=>by
   have:=b_3 _ d L.out.2 (D.drewN m) (L.out.1.up (a_m M m));rw [decide_eq_true U.out] at this;exact this
  have cz:∀ m,Calls Tryz.prog 76 #[.slice p n c] (D.drewN m) fun e I=>e = .returned (.int .i64 (N:Int))/\I=D.drewN m:=fun m=>by
   have:=size_any _ d L.out.2 (D.drewN m) (L.out.1.up (a_m M m));rw [HN.out] at this;exact this
  go_quiet (first|exact Calls.quiet_of_same (cg _)|exact Calls.quiet_of_same (cz _))
  go_wp2;go_ret;exact ⟨rfl,a_m M nq⟩
 ·rw [decide_eq_false (fun h:isP d x=>J h.1)];have U:Hid (¬ goodN (ntl d)):=J;clear J;go_enter Tryz.func86,Tryz.ntmps86;go_wp2_with fail
  refine a_P (fun D E=>?_);have M:Below w.heap.size w D:=by rw [E];go_grown
  have H:D.cell? ⟨w.heap.size,0,none⟩=some (.slice p n c)/\D.cell? ⟨w.heap.size,1,none⟩=some (.slice p2 R c2):=by rw [E];simp [go_sem]
  have x0:=H.1;have x1:=H.2;clear E H
  have cg:∀ m,Calls Tryz.prog 74 #[.slice p n c] (D.drewN m) fun e I=>e = .returned (.bool false)/\I=D.drewN m:=fun m=>by
   have:=b_3 _ d L.out.2 (D.drewN m) (L.out.1.up (a_m M m));rw [decide_eq_false U.out] at this;exact this
  go_quiet (exact Calls.quiet_of_same (cg _))
  go_wp2;go_ret;exact ⟨rfl,a_m M nq⟩
theorem b_j (v:Value) (l:List Int) (L:l.length<=1073741824) (w:World) (J:Nums .i64 w v l):
  Calls Tryz.prog 64 #[v] w fun e M=>∃ I,e = .returned I/\OwnK .i64 3 M w.heap.size I l/\Below w.heap.size w M:=by
 have H:=fun (w:World) a n c=>Lib.run_eql_slice_nil (P:=Tryz.prog) w 22 3 a n c 0 0 Tryz.underlying22;have D:Hid (Nums .i64 w v l/\l.length<=1073741824):=⟨J,L⟩
 rcases J with ⟨rfl,rfl⟩|⟨O,c,rfl,h⟩
 ·go_enter Tryz.func64,Tryz.ntmps64;go_wp2;go_ret;exact ⟨_,rfl,OwnK.nil _ _ _ _,Below.refl _ _⟩
 ·obtain ⟨n,E⟩:∃ n,l.length=n:=⟨_,rfl⟩
  have V:Hid (l.length=n):=E;rw [E] at D ⊢;clear h L E;have H5:Hid (OwnK .i64 3 (w.alloc (.cells #[] 3)) w.heap.size (.slice (some ⟨w.heap.size,0,none⟩) 0 0) []):=c_b w [] 0 rfl (by decide);have H6:Hid (Nums .i64 (w.alloc (.cells #[] 3)) (.slice (some O) n c) l):=D.out.1.up (a_b w _);have H7:Hid (([]:List Int).length+l.length<=1073741824):=by show _<=_;rw [V.out];simpa using D.out.2
  have R:Hid (Below w.heap.size w (w.alloc (.cells #[] 3))):=a_b w _;go_enter Tryz.func64,Tryz.ntmps64;go_wp2_with (at_builtin;refine a_E i_r (by decide) rfl (.tmp 5) (.tmp 6) rfl w.heap.size _ [] rfl H5.out _ l rfl H6.out H7.out (by simp) w R.out ?_;intro U w0 H0 B0)
  refine bodyPost_ret (v:=U) (by simp [results,Tryz.results64,go_sem]) rfl ⟨_,rfl,H0.out,B0⟩
theorem g_i (v:Value) (l:List Int) (L:l.length<=1073741824) (w:World) (J:Nums .i64 w v l):
  Calls Tryz.prog 80 #[v] w fun e M=>∃ I,e = .returned I/\OwnK .i64 48 M w.heap.size I l/\Below w.heap.size w M:=by
 have H:=fun (w:World) a n c=>Lib.run_eql_slice_nil (P:=Tryz.prog) w 26 48 a n c 0 0 Tryz.underlying26;have D:Hid (Nums .i64 w v l/\l.length<=1073741824):=⟨J,L⟩
 rcases J with ⟨rfl,rfl⟩|⟨O,c,rfl,h⟩
 ·go_enter Tryz.func80,Tryz.ntmps80;go_wp2;go_ret;exact ⟨_,rfl,OwnK.nil _ _ _ _,Below.refl _ _⟩
 ·obtain ⟨n,E⟩:∃ n,l.length=n:=⟨_,rfl⟩
  have V:Hid (l.length=n):=E;rw [E] at D ⊢;clear h L E;have H5:Hid (OwnK .i64 48 (w.alloc (.cells #[] 48)) w.heap.size (.slice (some ⟨w.heap.size,0,none⟩) 0 0) []):=c_b w [] 0 rfl (by decide);have H6:Hid (Nums .i64 (w.alloc (.cells #[] 48)) (.slice (some O) n c) l):=D.out.1.up (a_b w _);have H7:Hid (([]:List Int).length+l.length<=1073741824):=by show _<=_;rw [V.out];simpa using D.out.2
  have R:Hid (Below w.heap.size w (w.alloc (.cells #[] 48))):=a_b w _;go_enter Tryz.func80,Tryz.ntmps80;go_wp2_with (at_builtin;refine a_E k_C (by decide) rfl (.tmp 5) (.tmp 6) rfl w.heap.size _ [] rfl H5.out _ l rfl H6.out H7.out (by simp) w R.out ?_;intro U w0 H0 B0)
  refine bodyPost_ret (v:=U) (by simp [results,Tryz.results80,go_sem]) rfl ⟨_,rfl,H0.out,B0⟩
end Go.Proofs.YtcpbhhlepdgdkaaGreatDoor.Wd
namespace Go.Proofs.YtcpbhhlepdgdkaaGreatDoor.Fx
open Go.RowKit
/-- What is beyond the ends is held there. -/
def hold (x:Int):Int:=if 9223372036854775807 < x then 9223372036854775807 else if x < -9223372036854775808 then -9223372036854775808 else x
/-- A quotient of sizes, rounded: to the nearest, of two that are as near to the even one. -/
def rq (n d:Nat):Nat:=if d < 2*(n % d)∨(2*(n % d)=d/\n / d % 2=1) then n / d+1 else n / d
def sg (b:Bool) (n:Nat):Int:=if b then -(n:Int) else n
def differ (a b:Int):Bool:=decide (a < 0) != decide (b < 0)
def mulI (a b:Int):Int:=hold (sg (differ a b) (rq (a.natAbs*b.natAbs) 4294967296))
def f_2 (a:Int):Int:=if a=0 then 0 else if a < 0 then -9223372036854775808 else 9223372036854775807
def n_z (a b:Int):Int:=if b=0 then f_2 a else hold (sg (differ a b) (rq (a.natAbs*4294967296) b.natAbs))
def lim (b:Bool):Int:=if b then -9223372036854775808 else 9223372036854775807
/-- A quotient and its rest, rounded. -/
def nr (q r d:Nat):Nat:=if d < 2*r∨(2*r=d/\q % 2=1) then q+1 else q
def InR (a:Int):Prop:=-9223372036854775808<=a/\a<=9223372036854775807
theorem hold_in {x:Int} (E:-9223372036854775808<=x) (D:x<=9223372036854775807):hold x=x:=by unfold hold;split <;> (try split) <;> omega
theorem f_u {x:Int} (h:9223372036854775807<=x):hold x=9223372036854775807:=by unfold hold;split <;> (try split) <;> omega
theorem f_v {x:Int} (h:x<=-9223372036854775808):hold x = -9223372036854775808:=by unfold hold;split <;> (try split) <;> omega
theorem hold_rng (x:Int):-9223372036854775808<=hold x/\hold x<=9223372036854775807:=by unfold hold;split <;> (try split) <;> omega
/-- The sign of a bitwise operation's value is its highest bit. -/
theorem f_3 (v:BitVec 64):IntKind.i64.wrap (v.toNat:Int) < 0↔v.msb=true:=by
 rw [IntKind.wrap_i64,BitVec.msb_eq_decide];have:=v.isLt;simp only [decide_eq_true_eq];omega
theorem d_9 (a:Int) (E:-9223372036854775808<=a) (D:a<=9223372036854775807):(BitVec.ofInt 64 a).msb=decide (a < 0):=by
 rw [BitVec.msb_eq_decide,BitVec.toNat_ofInt];rw [Bool.eq_iff_iff];simp only [decide_eq_true_eq];omega
theorem g_j (v:BitVec 64):BitVec.ofInt 64 (IntKind.i64.wrap (v.toNat:Int))=v:=by
 apply BitVec.eq_of_toNat_eq;rw [BitVec.toNat_ofInt,IntKind.wrap_i64];have:=v.isLt;omega
theorem g_k (a b:Int):differ a b=true↔(a < 0/\0<=b)∨(0<=a/\b < 0):=by
 unfold differ;by_cases E:a < 0 <;> by_cases D:b < 0 <;> simp [E,D] <;> omega
theorem c_M (a b c d:Int) (H:InR a) (hb:InR b) (E:InR c) (D:InR d):
  bits .and .i64 (bits .xor .i64 a b) (bits .xor .i64 c d) < 0↔((a < 0/\0<=b)∨(0<=a/\b < 0))/\((c < 0/\0<=d)∨(0<=c/\d < 0)):=by
 rw [<- g_k,<- g_k];show IntKind.i64.wrap ((BitVec.ofInt 64 (IntKind.i64.wrap ((BitVec.ofInt 64 a ^^^ BitVec.ofInt 64 b).toNat:Int)) &&& BitVec.ofInt 64 (IntKind.i64.wrap ((BitVec.ofInt 64 c ^^^ BitVec.ofInt 64 d).toNat:Int))).toNat:Int) < 0↔_;rw [f_3,g_j,g_j,BitVec.msb_and,BitVec.msb_xor,BitVec.msb_xor,d_9 a H.1 H.2,d_9 b hb.1 hb.2,d_9 c E.1 E.2,d_9 d D.1 D.2];unfold differ;cases decide (a < 0) <;> cases decide (b < 0) <;> cases decide (c < 0) <;> cases decide (d < 0) <;> simp
theorem b_7 (n:Int):InR (wrap64 n):=by unfold InR wrap64;omega
theorem n_U (a b:Int) (D:InR a) (hb:InR b) (h:bits .and .i64 (bits .xor .i64 a (wrap64 (a+b))) (bits .xor .i64 b (wrap64 (a+b))) < 0):
  hold (a+b)=if a < 0 then -9223372036854775808 else 9223372036854775807:=by
 rw [c_M a _ b _ D (b_7 _) hb (b_7 _)] at h;unfold InR at D hb;unfold wrap64 at h;by_cases E:a < 0
 ·rw [if_pos E,f_v];omega
 ·rw [if_neg E,f_u];omega
theorem n_V (a b:Int) (D:InR a) (hb:InR b) (h:0<=bits .and .i64 (bits .xor .i64 a (wrap64 (a+b))) (bits .xor .i64 b (wrap64 (a+b)))):
  wrap64 (a+b)=hold (a+b):=by
 have E:=mt (c_M a _ b _ D (b_7 (a+b)) hb (b_7 (a+b))).2 (by omega);unfold InR at D hb;unfold wrap64 at E;unfold wrap64 hold
 split <;> (try split) <;> omega
theorem n_W (a b:Int) (D:InR a) (hb:InR b) (h:bits .and .i64 (bits .xor .i64 a b) (bits .xor .i64 a (wrap64 (a - b))) < 0):
  hold (a - b)=if a < 0 then -9223372036854775808 else 9223372036854775807:=by
 rw [c_M a _ a _ D hb D (b_7 _)] at h;unfold InR at D hb;unfold wrap64 at h;by_cases E:a < 0
 ·rw [if_pos E,f_v];omega
 ·rw [if_neg E,f_u];omega
theorem n_X (a b:Int) (D:InR a) (hb:InR b) (h:0<=bits .and .i64 (bits .xor .i64 a b) (bits .xor .i64 a (wrap64 (a - b)))):
  wrap64 (a - b)=hold (a - b):=by
 have E:=mt (c_M a _ a _ D hb D (b_7 (a - b))).2 (by omega);unfold InR at D hb;unfold wrap64 at E;unfold wrap64 hold
 split <;> (try split) <;> omega
theorem n_Y (n d:Nat):nr (n / d) (n % d) d=rq n d:=rfl
theorem g_S (b:Bool) (n:Nat) (h:9223372036854775807 < n):lim b=hold (sg b n):=by
 cases b
 ·rw [f_u (by unfold sg;simp;omega)];rfl
 ·rw [f_v (by unfold sg;simp;omega)];rfl
theorem p_6 (n:Nat) (h:n<=9223372036854775807):(n:Int)=hold (sg false n):=by
 rw [hold_in (by simp [sg];try omega) (by simp [sg];try omega)];rfl
theorem l_G (n:Nat) (h:n<=9223372036854775807):-(n:Int)=hold (sg true n):=by
 rw [hold_in (by simp [sg];try omega) (by simp [sg];try omega)];rfl
theorem joinN (D E:Nat) (H:D < 4294967296) (L:E < 18446744073709551616):
  bits .or .u64 ((D:Int)*4294967296) ((E:Int) / 4294967296)=((D*4294967296+E / 4294967296:Nat):Int):=by
 have I:∀ n:Int,0<=n->n < 2 ^ 64->IntKind.u64.wrap n=n:=fun n J H=>by rw [IntKind.wrap_u64];omega
 rw [bits_join .u64 64 (by decide) I 32 _ _ (by omega) (by omega) (by omega) (by omega) (by omega) (by omega)];omega
theorem s_V (a:Nat) (D:a < 18446744073709551616):bits .and .u64 (a:Int) 4294967295=((a % 4294967296:Nat):Int):=by
 have h:=bits_and_u64_nat a 4294967295 D (by omega);have e:a &&& 4294967295=a % 4294967296:=Nat.and_two_pow_sub_one_eq_mod a 32;rw [e] at h;exact h
theorem p_7 (D E:Nat):(D*18446744073709551616+E) / 4294967296=D*4294967296+E / 4294967296:=by omega
theorem p_8 (E D:Nat):(E*18446744073709551616+D) % 4294967296=D % 4294967296:=by omega
theorem r_C (q r d:Nat):nr q r d<=q+1:=by unfold nr;split <;> omega
theorem s_W (q r d:Nat):q<=nr q r d:=by unfold nr;split <;> omega
theorem r_D (n d:Nat):n / d<=rq n d:=by rw [<- n_Y];exact s_W _ _ _
theorem rq_le (n d:Nat):rq n d<=n / d+1:=by rw [<- n_Y];exact r_C _ _ _
theorem n_Z (E D:Nat) (I:E < 2147483648) (H:D < 18446744073709551616):rq (E*18446744073709551616+D) 4294967296 < 18446744073709551616:=by
 have:=rq_le (E*18446744073709551616+D) 4294967296;omega
/-- A product of 2^95 or more is beyond the ends. -/
theorem p_9 (a b:Int) (x y:Nat) (E:a.natAbs=x) (D:b.natAbs=y) (h:2147483648<=x*y / 18446744073709551616):lim (differ a b)=mulI a b:=by
 unfold mulI;rw [E,D];have:=r_D (x*y) 4294967296;exact g_S _ _ (by omega)
theorem n_0 (a b:Int) (x y:Nat) (I:a.natAbs=x) (H:b.natAbs=y) (D E:Nat) (J:D=x*y / 18446744073709551616) (L:E=x*y % 18446744073709551616):
  hold (sg (differ a b) (rq (D*18446744073709551616+E) 4294967296))=mulI a b:=by
 unfold mulI;rw [I,H,show D*18446744073709551616+E=x*y by omega]
theorem l_H (a b:Int) (D:InR a) (hb:InR b) (h:bits .and .i64 (bits .xor .i64 a (wrap64 (a+b))) (bits .xor .i64 b (wrap64 (a+b))) < 0):
  lim (decide (a < 0))=hold (a+b):=by
 rw [n_U a b D hb h];unfold lim;by_cases h:a < 0 <;> simp [h]
theorem l_I (a b:Int) (D:InR a) (hb:InR b) (h:bits .and .i64 (bits .xor .i64 a b) (bits .xor .i64 a (wrap64 (a - b))) < 0):
  lim (decide (a < 0))=hold (a - b):=by
 rw [n_W a b D hb h];unfold lim;by_cases h:a < 0 <;> simp [h]
theorem n_1 (a:Int) (h:¬ a=0):lim (decide (a < 0))=f_2 a:=by
 unfold f_2 lim;rw [if_neg h];by_cases h:a < 0 <;> simp [h]
theorem q_a (a b x y:Int) (E:(a.natAbs:Int)=x) (D:(b.natAbs:Int)=y) (hb:b≠0) (I:0 < y) (h:y<=x / 2147483648):lim (differ a b)=n_z a b:=by
 unfold n_z;rw [if_neg hb];apply g_S;have:=r_D (a.natAbs*4294967296) b.natAbs
 have H:9223372036854775808<=a.natAbs*4294967296 / b.natAbs:=by
  rw [Nat.le_div_iff_mul_le (by omega)];omega
 omega
theorem n_2 (a b x y:Int) (m:Nat) (I:(a.natAbs:Int)=x) (D:(b.natAbs:Int)=y) (hb:b≠0) (E:nr ((x*4294967296) / y).toNat ((x*4294967296) % y).toNat y.toNat=m):hold (sg (differ a b) m)=n_z a b:=by
 unfold n_z;subst I D E;have c:(4294967296:Int)=((4294967296:Nat):Int):=rfl
 have H:((a.natAbs:Int)*4294967296 / (b.natAbs:Int)).toNat=a.natAbs*4294967296 / b.natAbs:=by
  rw [c,<- Int.natCast_mul,<- Int.natCast_ediv,Int.toNat_natCast]
 have J:((a.natAbs:Int)*4294967296 % (b.natAbs:Int)).toNat=a.natAbs*4294967296 % b.natAbs:=by
  rw [c,<- Int.natCast_mul,<- Int.natCast_emod,Int.toNat_natCast]
 rw [if_neg hb,<- n_Y,H,J,Int.toNat_natCast]
theorem e_W (a b:Int):InR (mulI a b):=by unfold mulI;exact hold_rng _
end Go.Proofs.YtcpbhhlepdgdkaaGreatDoor.Fx
namespace Go.Proofs.YtcpbhhlepdgdkaaGreatDoor.Wd
open Go.RowKit
/-- make of no number, with room. -/
theorem e_a {P:Program} {t e:TypeId} {k:IntKind} {b:Nat} (T:NumT P t e k b) (L:b<=8) (w:World) {ops:Array Oper} {rest:List Oper} {o:Oper} {a:Act} {Q:Exit->Act->World->Prop}
  (hg:o.guard=none) (l c:Operand) (E:o.op=Op.makeSlice t l c) (O M:IntKind) (C:Int) (n:Nat) (hl:a.eval l = .int O 0) (hc:a.eval c = .int M C) (R:C=(n:Int)) (hn:n<=1073741824)
  (hK:∀ D,Hid (OwnK k e D w.heap.size (.slice (some ⟨w.heap.size,0,none⟩) 0 n) [])->Below w.heap.size w D->wpList P ops Q rest (a.put o.dst (.slice (some ⟨w.heap.size,0,none⟩) 0 n)) D):
  wpList P ops Q (o :: rest) a w:=by
 obtain ⟨i0,hi,I,J,H⟩:=g_B T;have hm:b*n<=8*1073741824:=Nat.mul_le_mul L hn;refine wpList_make_own w hg l c t E w.heap.size e i0 (.int k 0) 1 T.ht hi I J O M C n hl hc R (by rw [H];omega) (by unfold maxLen;omega) (Nat.le_refl _) ?_;intro D h1 V;exact hK D h1 (Below.grown (Below.refl _ _) V (Nat.le_refl _) (fun j U=>by cases U))
theorem l_J {d s:List Nat} (E:∀ x,x∈d->x<=4096) (H:∀ x,x∈s->x<=4096):∀ k a,a∈h_u d s k->a<=k*16777216
 | 0,a,h=>by simp [h_u] at h;omega
 | k+1,a,h=>by
  rw [h_u] at h;obtain ⟨b,hb,h⟩:=List.mem_flatMap.1 h;obtain ⟨n,J,rfl⟩:=List.mem_map.1 h;have O:=l_J E H k b hb;have L:=List.mem_range.1 J
  have M:d.getD k 0<=4096:=by
   rcases Nat.lt_or_ge k d.length with D|D
   ·rw [a_r d k 0 D];exact E _ (List.getElem_mem _)
   ·rw [g_I d k 0 D];omega
  have I:s.getD k 0<=4096:=by
   rcases Nat.lt_or_ge k s.length with D|D
   ·rw [a_r s k 0 D];exact H _ (List.getElem_mem _)
   ·rw [g_I s k 0 D];omega
  have:=Nat.mul_le_mul (show n<=4096 by omega) I;omega
theorem q_b (a b:List Nat):itl (a++b)=itl a++itl b:=by simp [itl]
theorem f_4 (g:Nat->Nat) (i:Nat):(List.range (i+1)).map g=(List.range i).map g++[g i]:=by rw [List.range_succ,List.map_append];rfl
theorem l_K (l:List Nat) (f:Nat->List Nat) (j:Nat) (h:j < l.length):(l.take (j+1)).flatMap f=(l.take j).flatMap f++f (l.getD j 0):=by
 rw [List.take_succ_eq_append_getElem h,List.flatMap_append,a_r l j 0 h];simp
theorem j_C (u v:Value) (d s:List Nat) (hd:goodN d) (hs:s.length=d.length) (hb:∀ x,x∈s->x<=4096) (w:World) (hu:Nums .i64 w u (itl d)) (hv:Nums .i64 w v (itl s)):
  Calls Tryz.prog 150 #[u,v] w fun e w'=>∃ v',e = .returned v'/\OwnK .i64 3 w' w.heap.size v' (itl (f_o d s))/\Below w.heap.size w w':=by
 obtain ⟨p,n,c,rfl,HA⟩:=hu.lst;obtain ⟨p2,n2,c2,rfl,HB⟩:=hv.lst;have aa:d.length=n:=by rw [<- a_v d];exact HA.out.1
 obtain rfl:n2=n:=by rw [<- aa,<- hs,<- a_v s];exact HB.out.1.symm
 have hn:n2<=4:=by rw [<- aa];exact hd.1
 have aT:(n2:Int)<=4:=by omega
 have R:Hid (goodN d/\s.length=d.length/\(∀ x,x∈s->x<=4096)/\d.length=n2):=⟨hd,hs,hb,aa⟩
 obtain ⟨L,eL⟩:∃ L,itl (f_o d s)=L:=⟨_,rfl⟩
 have HL:Hid (itl (f_o d s)=L):=eL;have H5:Hid (OwnK .i64 3 (w.alloc (.cells #[.int .i64 0] 3)) w.heap.size (.slice (some ⟨w.heap.size,0,none⟩) 1 1) (itl (h_u d s 0))):=c_b w [0] 1 rfl (by decide);have H8:Hid (Below w.heap.size w (w.alloc (.cells #[.int .i64 0] 3))):=a_b w _;rw [eL];clear eL hd hs hb aa hu hv;go_enter Tryz.func150,Tryz.ntmps150;go_wp2_with fail
 go_loopg [5,15] n2 (fun gg r i wr=>∃ (k:Nat),k<=n2/\gg=n2 - k/\i = .int .i64 (k:Int)/\Hid (OwnK .i64 3 wr w.heap.size r (itl (h_u d s k)))/\Hid (Below w.heap.size w wr))
 case atStart=>exact ⟨0,by omega,by omega,by first|rfl|simp,H5,H8⟩
 case round=>
  obtain ⟨k,hk,hg,rfl,HO,hB⟩:=hrel;obtain ⟨J,aF⟩:∃ J:World,J=wr:=⟨_,rfl⟩
  subst aF;by_cases O:k < n2
  ·have aM:(k:Int) < (n2:Int):=by omega
   obtain ⟨q,o,rfl,aq⟩:=HA.out.2 k O;have E:=a_d aq hB.out;obtain ⟨q2,o2,rfl,aj⟩:=HB.out.2 k O;have H:=a_d aj hB.out;clear aq aj;obtain ⟨rp,N,rc,ai,HR⟩:=HO.out.nums.lst;subst ai;rw [a_O] at E H;obtain ⟨D,eD⟩:∃ D,d.getD k 0=D:=⟨_,rfl⟩
   obtain ⟨st,es⟩:∃ st,s.getD k 0=st:=⟨_,rfl⟩
   rw [eD] at E;rw [es] at H;obtain ⟨l,el⟩:∃ l,h_u d s k=l:=⟨_,rfl⟩
   have ad:=R.out.1.at k (by rw [R.out.2.2.2];exact O);rw [eD] at ad
   have aw:st<=4096:=by
    rw [<- es,a_r s k 0 (by rw [R.out.2.1,R.out.2.2.2];exact O)];exact R.out.2.2.1 _ (List.getElem_mem _)
   have hN:l.length=N:=by rw [<- el,<- a_v];exact HR.out.1
   have aH:N*D<=4096:=by
    rw [<- hN,<- el,e_V d s k (by rw [R.out.2.2.2];omega),<- eD,a_r d k 0 (by rw [R.out.2.2.2];exact O),<- b_D d k (by rw [R.out.2.2.2];exact O)];exact Nat.le_trans (d_0 R.out.1.2.1 _) R.out.1.2.2
   have ah:(N:Int)*(D:Int)<=4096:=by rw [<- Int.natCast_mul];omega
   have ao:0<=(N:Int)*(D:Int):=by rw [<- Int.natCast_mul];omega
   have aK:N<=4096:=by
    have:=Nat.mul_le_mul (Nat.le_refl N) ad.1;omega
   have aJ:(N:Int)<=4096:=by omega
   have aU:1<=(D:Int)/\(D:Int)<=4096:=by omega
   have aI:0<=(st:Int)/\(st:Int)<=4096:=by omega
   obtain ⟨f,ef⟩:∃ f:Nat->List Nat,(fun a=>(List.range D).map fun n=>a+n*st)=f:=⟨_,rfl⟩
   have V:Hid ((fun a=>(List.range D).map fun n=>a+n*st)=f/\h_u d s (k+1)=l.flatMap f/\h_u d s k=l/\l.length=N):=⟨ef,by rw [h_u,el,eD,es,ef],el,hN⟩
   have az:Hid (∀ j,j < N->l.getD j 0<=67108864):=fun j hj=>by
    have aD:j < l.length:=by rw [V.out.2.2.2];exact hj
    have ak:l.getD j 0∈h_u d s k:=by
     rw [V.out.2.2.1,a_r l j 0 aD];exact List.getElem_mem _
    have:=l_J R.out.1.le R.out.2.2.1 k _ ak;omega
   obtain ⟨M,eM⟩:∃ M:Nat,N*D=M:=⟨_,rfl⟩
   have ax:(N:Int)*(D:Int)=(M:Int):=by rw [<- Int.natCast_mul,eM]
   have hM:M<=4096:=by omega
   have HM:Hid (N*D=M):=eM;clear eD es el hN ef aH ah ao eM ad aw;go_wp2_with (at_make;refine e_a i_r (by decide) _ rfl (.const (.int .i64 0)) (.tmp 23) rfl .i64 .i64 _ M rfl rfl rfl (by omega) ?_;intro w1 ag B1)
   rw [show ([]:List Int)=itl ((l.take 0).flatMap f) by simp [itl]] at ag;have aG:Hid (J.cell? ⟨q2,o2+k,none⟩=some (.int .i64 (st:Int))):=H;clear E H HO ax;go_wp2_with fail
   go_loopg [8,27] N (fun gg r i wz=>∃ (j:Nat),j<=N/\gg=N - j/\i = .int .i64 (j:Int)/\Hid (OwnK .i64 3 wz J.heap.size r (itl ((l.take j).flatMap f)))/\Hid (Below J.heap.size J wz))
   case atStart=>exact ⟨0,by omega,by omega,by first|rfl|simp,ag,B1⟩
   case round=>
    obtain ⟨j,hj,aV,rfl,ac,af⟩:=hrel;obtain ⟨R1,ay⟩:∃ R1:World,R1=wr:=⟨_,rfl⟩
    subst ay;by_cases ab:j < N
    ·have aL:(j:Int) < (N:Int):=by omega
     obtain ⟨q3,o3,rfl,ar⟩:=HR.out.2 j ab;have E:=a_d ar af.out;rw [a_O,V.out.2.2.1] at E;have ha:=az.out j ab;obtain ⟨I,ea⟩:∃ a,l.getD j 0=a:=⟨_,rfl⟩
     rw [ea] at E ha;have aB:Hid (l.getD j 0=I):=ea;have aW:(I:Int)<=67108864:=by omega
     obtain ⟨A,eA⟩:∃ A,(l.take j).flatMap f=A:=⟨_,rfl⟩
     have hA:A.length=j*D:=by
      rw [<- eA,<- V.out.1,g_J,List.length_take,V.out.2.2.2,Nat.min_eq_left hj]
     have au:A.length+D<=4096:=by
      have h1:=Nat.mul_le_mul (show j+1<=N by omega) (Nat.le_refl D);rw [HM.out,Nat.add_mul] at h1;omega
     have an:Hid ((l.take j).flatMap f=A/\A.length+D<=4096):=⟨eA,au⟩
     rw [eA,show A=A++(List.range 0).map (fun n=>I+n*st) by simp] at ac;clear ea ar eA hA au;go_wp2_with fail
     go_loopg [8,32] D (fun gg r i wy=>∃ (m:Nat),m<=D/\gg=D - m/\i = .int .i64 (m:Int)/\Hid (OwnK .i64 3 wy J.heap.size r (itl (A++(List.range m).map fun n=>I+n*st)))/\Hid (Below J.heap.size J wy))
     case atStart=>exact ⟨0,by omega,by omega,by first|rfl|simp,ac,af⟩
     case round=>
      obtain ⟨m,hm,aS,rfl,am,ae⟩:=hrel;obtain ⟨R2,aA⟩:∃ R2:World,R2=wr:=⟨_,rfl⟩
      subst aA;by_cases aO:m < D
      ·have aN:(m:Int) < (D:Int):=by omega
       have aQ:=a_d aG.out ae.out;obtain ⟨X,eX⟩:∃ X,I+m*st=X:=⟨_,rfl⟩
       have aC:m*st<=16777216:=Nat.mul_le_mul (show m<=4096 by omega) (show st<=4096 by omega);obtain ⟨Y,eY⟩:∃ Y,m*st=Y:=⟨_,rfl⟩
       have aR:(m:Int)*(st:Int)=(Y:Int):=by rw [<- Int.natCast_mul,eY]
       rw [eY] at eX aC;have aX:(Y:Int)<=16777216:=by omega
       have aP:(I:Int)+(Y:Int)=(X:Int):=by omega
       have HX:Hid (I+m*st=X):=by show _=_;rw [eY];exact eX
       have H6:Hid (OwnK .i64 3 (R2.alloc (.cells #[.int .i64 (X:Int)] 3)) J.heap.size u8 (itl (A++(List.range m).map fun n=>I+n*st))):=am.out.up (a_b R2 _);have aE:Hid (Nums .i64 (R2.alloc (.cells #[.int .i64 (X:Int)] 3)) (.slice (some ⟨R2.heap.size,0,none⟩) 1 1) [(X:Int)]):=a_5 (k:=.i64) R2 [(X:Int)] 1 (0,0) rfl;have ap:Hid (Below J.heap.size J (R2.alloc (.cells #[.int .i64 (X:Int)] 3))):=g_f ae.out _
       have av:Hid ((itl (A++(List.range m).map fun n=>I+n*st)).length+[(X:Int)].length<=1073741824):=by
        show _<=_;rw [a_v,List.length_append,List.length_map,List.length_range,List.length_singleton];have:=an.out.2;omega
       clear eX eY;go_wp2_with (at_builtin;refine a_E i_r (by decide) rfl (.tmp 35) (.tmp 44) rfl J.heap.size _ _ rfl H6.out _ [(X:Int)] rfl aE.out av.out ap.out.size J ap.out ?_;intro v0 w0 H0 B0)
       have H7:Hid (OwnK .i64 3 w0 J.heap.size v0 (itl (A++(List.range (m+1)).map fun n=>I+n*st))):=by
        show OwnK _ _ _ _ _ _;rw [f_4,<- List.append_assoc,q_b,HX.out];exact H0.out
       go_roundg (D - (m+1))
       case measure=>omega
       case rel=>exact ⟨m+1,by omega,rfl,by first|rfl|simp,H7,B0⟩
      ·obtain rfl:m=D:=by omega
       have H7:Hid (OwnK .i64 3 R2 J.heap.size u8 (itl ((l.take (j+1)).flatMap f))):=by
        show OwnK _ _ _ _ _ _;rw [l_K l f j (by rw [V.out.2.2.2];exact ab),an.out.1,aB.out,<- V.out.1];exact am.out
       go_wp2;go_roundg (N - (j+1))
       case measure=>omega
       case rel=>exact ⟨j+1,by omega,rfl,by first|rfl|simp,H7,ae⟩
    ·obtain rfl:j=N:=by omega
     have H7:Hid (OwnK .i64 3 R1 w.heap.size u8 (itl (h_u d s (k+1)))):=by
      show OwnK _ _ _ _ _ _;rw [V.out.2.1];have:=ac.out;rw [List.take_of_length_le (by rw [V.out.2.2.2];exact Nat.le_refl _)] at this;exact this.low hB.out.size
     have H9:Hid (Below w.heap.size w R1):=a_c hB.out af.out;go_wp2;go_roundg (n2 - (k+1))
     case measure=>omega
     case rel=>exact ⟨k+1,by omega,rfl,by first|rfl|simp,H7,H9⟩
  ·obtain rfl:k=n2:=by omega
   have U:=HO.out;have hw:=HL.out;unfold f_o at hw;rw [R.out.2.2.2] at hw;rw [hw] at U;have V:Hid (OwnK .i64 3 J w.heap.size _ L/\Below w.heap.size w J):=⟨U,hB.out⟩
   clear U hw;go_wp2;go_ret;exact ⟨_,rfl,V.out⟩
theorem q_c (l:List Nat) (j x:Nat):itl (l.set j x)=(itl l).set j (x:Int):=by unfold itl;rw [List.map_set]
theorem e_v (u v:Value) (d big:List Nat) (hd:goodN d) (hb:goodN big) (hl:d.length<=big.length) (w:World) (hu:Nums .i64 w u (itl d)) (hv:Nums .i64 w v (itl big)):
  Calls Tryz.prog 122 #[u,v] w fun e w'=>∃ v',e = .returned v'/\OwnK .i64 3 w' w.heap.size v' (itl (b_X d big))/\Below w.heap.size w w':=by
 have cs:∀ W,Below w.heap.size w W->Calls Tryz.prog 149 #[u] W fun e w'=>∃ v',e = .returned v'/\OwnK .i64 3 w' W.heap.size v' (itl (a_x d))/\Below W.heap.size W w':=fun W hW=>by
  have:=f_h u (itl d) (j_t hd.le) W (hu.up hW);rw [show c_I (itl d)=itl (a_x d) by unfold c_I;rw [a_p,if_pos hd]] at this;exact this
 have ai:Hid (Nums .i64 w u (itl d)/\Nums .i64 w v (itl big)):=⟨hu,hv⟩
 obtain ⟨p,n,c,rfl,HA⟩:=hu.lst;obtain ⟨p2,E,c2,rfl,HB⟩:=hv.lst;have R:d.length=n:=by rw [<- a_v d];exact HA.out.1
 have I:big.length=E:=by rw [<- a_v big];exact HB.out.1
 have hn:n<=E:=by omega
 have az:E<=4:=by rw [<- I];exact hb.1
 have aB:(n:Int)<=(E:Int):=by omega
 have aq:(E:Int)<=4:=by omega
 have J:Hid (goodN d/\goodN big/\d.length=n/\big.length=E):=⟨hd,hb,R,I⟩
 obtain ⟨L,eL⟩:∃ L,itl (b_X d big)=L:=⟨_,rfl⟩
 have HL:Hid (itl (f_o big (b_4 d E n))=L):=by show _=_;rw [<- eL,<- I,<- R];rfl
 obtain ⟨ah,aA⟩:∃ ah,E - n=ah:=⟨_,rfl⟩
 have av:(E:Int) - (n:Int)=(ah:Int):=by omega
 have aE:ah<=4:=by omega
 rw [eL];clear eL hd hb hl R I hu hv;go_enter Tryz.func122,Tryz.ntmps122;go_wp2_with (at_make;refine a_y i_r (by decide) _ rfl (.tmp 10) (.tmp 10) rfl .i64 .i64 E E E rfl rfl rfl rfl (by omega) w.heap.size w (Nat.le_refl _) (Below.refl _ _) ?_;intro w1 HO B0 B1;clear B0)
 rw [show List.replicate E (0:Int)=itl (b_4 d E 0) by unfold itl b_4;rw [List.map_replicate];rfl] at HO;refine (cs w1 B1).mono ?_;rintro e w2 ⟨vs,rfl,O,U⟩;obtain ⟨p3,H,c3,rfl,af⟩:=O.nums.lst;obtain rfl:H=n:=by rw [<- af.out.1,a_v,b_T,J.out.2.2.1]
 have HS:Hid (OwnK .i64 3 w2 w1.heap.size (.slice p3 H c3) (itl (a_x d))):=O;have ao:Hid (OwnK .i64 3 w2 w.heap.size (.slice (some ⟨w.heap.size,0,none⟩) E E) (itl (b_4 d E 0))):=HO.out.up U;have ap:Hid (Below w.heap.size w w2):=a_c B1 U;have Hg:Hid (w.heap.size < w1.heap.size):=HO.out.size;clear O U HO B1 cs af;go_wp2_with fail
 go_loopg [20] H (fun gg i wr=>∃ (k:Nat),k<=H/\gg=H - k/\i = .int .i64 (k:Int)/\Hid (OwnK .i64 3 wr w.heap.size (.slice (some ⟨w.heap.size,0,none⟩) E E) (itl (b_4 d E k)))/\Hid (Below w.heap.size w wr)/\Hid (Stay w.heap.size w2 wr))
 case atStart=>exact ⟨0,by omega,by omega,by first|rfl|simp,ao,ap,Stay.refl _ _⟩
 case round=>
  obtain ⟨k,hk,hg,rfl,HR,V,hS⟩:=hrel;by_cases M:k < H
  ·have ay:(k:Int) < (H:Int):=by omega
   have am:=(HS.out.nums.stay hS.out (HS.out.off Hg.out)).lst;obtain ⟨p4,n4,c4,e4,aa⟩:=am;cases e4;obtain ⟨q,o,rfl,ag⟩:=aa.out.2 k M;obtain ⟨q2,o2,rfl,ad⟩:=HA.out.2 k M;have ab:=a_d ad V.out;rw [a_O] at ag ab;obtain ⟨st,es⟩:∃ st,(a_x d).getD k 0=st:=⟨_,rfl⟩
   obtain ⟨D,eD⟩:∃ D,d.getD k 0=D:=⟨_,rfl⟩
   rw [es] at ag;rw [eD] at ab;have HE:Hid ((a_x d).getD k 0=st/\d.getD k 0=D):=⟨es,eD⟩
   have ae:=e_s J.out.1 k;rw [es] at ae;have ar:(st:Int)<=4096:=by omega
   have hD:=J.out.1.at k (by rw [J.out.2.2.1];exact M);rw [eD] at hD;have aC:1<=(D:Int)/\(D:Int)<=4096:=by omega
   clear es eD ad aa ae;by_cases h1:1 < D
   ·have aj:(1:Int) < (D:Int):=by omega
    obtain ⟨j,ej⟩:∃ j,ah+k=j:=⟨_,rfl⟩
    have aD:(ah:Int)+(k:Int)=(j:Int):=by omega
    have hj:j < E:=by omega
    have aw:(j:Int) < (E:Int):=by omega
    have Hj:Hid (E - d.length+k=j):=by show _=_;rw [J.out.2.2.1];omega
    obtain ⟨au,ax⟩:=HR.out.cell (by rw [a_v,c_f]) j hj
    have H2:Hid (OwnK .i64 3 (wr.setCell ⟨w.heap.size,j,none⟩ (.int .i64 (st:Int))) w.heap.size (.slice (some ⟨w.heap.size,0,none⟩) E E) (itl (b_4 d E (k+1)))):=by
     have:=HR.out.store (by rw [a_v,c_f]) j (st:Int);rw [<- q_c,<- HE.out.1,<- Hj.out] at this;show OwnK _ _ _ _ _ _;rw [b_4,if_pos (by rw [HE.out.2];exact h1),<- HE.out.1,<- Hj.out];exact this
    have an:Hid (Below w.heap.size w (wr.setCell ⟨w.heap.size,j,none⟩ (.int .i64 (st:Int)))):=V.out.setCell (p:=⟨w.heap.size,j,none⟩) (Nat.le_refl _) _;have ak:Hid (Stay w.heap.size w2 (wr.setCell ⟨w.heap.size,j,none⟩ (.int .i64 (st:Int)))):=hS.out.set _ _;clear ej;go_wp2;go_roundg (H - (k+1))
    case measure=>omega
    case rel=>exact ⟨k+1,by omega,rfl,by first|rfl|simp,H2,an,ak⟩
   ·have aj:(D:Int)<=1:=by omega
    have H2:Hid (OwnK .i64 3 wr w.heap.size (.slice (some ⟨w.heap.size,0,none⟩) E E) (itl (b_4 d E (k+1)))):=by
     show OwnK _ _ _ _ _ _;rw [b_4,if_neg (by rw [HE.out.2];exact h1)];exact HR.out
    go_wp2;go_roundg (H - (k+1))
    case measure=>omega
    case rel=>exact ⟨k+1,by omega,rfl,by first|rfl|simp,H2,V,hS⟩
  ·obtain rfl:k=H:=by omega
   have cw:=j_C _ _ big (b_4 d E k) J.out.2.1 (by rw [c_f,J.out.2.2.2]) (g_L J.out.1 E k) wr (ai.out.2.up V.out) HR.out.nums;rw [HL.out] at cw;go_wp2_with fail
   refine cw.mono ?_;rintro e w5 ⟨v5,rfl,h5,ac⟩;have HF:Hid (OwnK .i64 3 w5 w.heap.size v5 L/\Below w.heap.size w w5):=⟨h5.low V.out.size,a_c V.out ac⟩
   clear h5 ac cw;go_wp2;go_ret;exact ⟨_,rfl,HF.out⟩
theorem a_a {W:World} {b o:Nat} {v:Value} (h:W.cell? ⟨b,o,none⟩=some v):b < W.heap.size:=c_x (a:=⟨b,o,none⟩) h
/-- A struct of two values in a block, that may be stored into. -/
def Cel (W:World) (b:Nat) (s t:Value):Prop:=W.cell? ⟨b,0,none⟩=some s/\W.cell? ⟨b,1,none⟩=some t/\W.frozen? ⟨b,0,none⟩=false/\W.frozen? ⟨b,1,none⟩=false
theorem Cel.up {W W':World} {b:Nat} {s t:Value} (h:Cel W b s t) (D:Below W.heap.size W W'):Cel W' b s t:=by
 have hb:=a_a h.1;refine ⟨a_d h.1 D,a_d h.2.1 D,?_,?_⟩
 ·rw [D.frozen (p:=⟨b,0,none⟩) hb];exact h.2.2.1
 ·rw [D.frozen (p:=⟨b,1,none⟩) hb];exact h.2.2.2
theorem Cel.stay {g:Nat} {W W':World} {b:Nat} {s t:Value} (h:Cel W b s t) (D:Stay g W W') (E:b≠g):Cel W' b s t:=by
 have hb:=a_a h.1;refine ⟨D.cell h.1 E,D.cell h.2.1 E,?_,?_⟩
 ·rw [D.frozen hb E];exact h.2.2.1
 ·rw [D.frozen hb E];exact h.2.2.2
theorem a_F {V D:World} {b:Nat} {s t:Value} (h:V=D) (E:V.cell? ⟨b,0,none⟩=some s/\V.cell? ⟨b,1,none⟩=some t/\V.frozen? ⟨b,0,none⟩=false/\V.frozen? ⟨b,1,none⟩=false):Hid (Cel D b s t):=h ▸ E
theorem b_1 {w V D:World} (h:V=D) (E:Below w.heap.size w V):Hid (Below w.heap.size w D):=h ▸ E
theorem j_D {W:World} {p:Addr} {x v:Value} (h:W.cell? p=some v):(W.setCell p x).cell? p=some x:=World.cell?_setCell_same _ _ _ h
theorem l_L {W:World} {b i j:Nat} {x:Value} (D:j≠i):(W.setCell ⟨b,i,none⟩ x).cell? ⟨b,j,none⟩=W.cell? ⟨b,j,none⟩:=World.cell?_setCell_other _ _ _ _ (by simp;try omega)
/-- The struct, stored. -/
abbrev set2 (W:World) (b:Nat) (s t:Value):World:=(W.setCell ⟨b,0,none⟩ s).setCell ⟨b,1,none⟩ t
theorem Cel.set {W:World} {b:Nat} {s t:Value} (h:Cel W b s t) (D E:Value):Cel (set2 W b D E) b D E:=by
 refine ⟨?_,?_,?_,?_⟩
 ·show ((W.setCell ⟨b,0,none⟩ D).setCell ⟨b,1,none⟩ E).cell? ⟨b,0,none⟩=_;rw [l_L (by omega)];exact j_D h.1
 ·exact j_D (by rw [l_L (by omega)];exact h.2.1)
 ·simp [h.2.2.1]
 ·simp [h.2.2.2]
theorem Stay.set2 {g:Nat} (W:World) (s t:Value):Stay g W (set2 W g s t):=((Stay.refl g W).set 0 s).set 1 t
theorem OwnK.off_new {k:IntKind} {e:TypeId} {W:World} {B g:Nat} {v:Value} {l:List Int} (h:OwnK k e W B v l) (O:W.heap.size<=g):Off g v:=by
 intro L n c D;rcases h.2 with ⟨E,_⟩|⟨q,I,J,E,M,H,_⟩
 ·rw [E] at D;cases D
 ·rw [E] at D;cases D
  have:q < W.heap.size:=by
   rcases Nat.lt_or_ge q W.heap.size with h|h
   ·exact h
   ·rw [Array.getElem?_eq_none h] at H;cases H
  show q≠g;omega
/-- What a call answers: a tensor in memory of its own. -/
def TRes (W:World) (B:Nat) (v:Value) (D X:List Int):Prop:=∃ s t,v = .agg #[s,t]/\OwnK .i64 3 W B s D/\OwnK .i64 48 W B t X
theorem TRes.none (W:World) (B:Nat):TRes W B (.agg #[.slice none 0 0,.slice none 0 0]) [] []:=⟨_,_,rfl,OwnK.nil _ _ _ _,OwnK.nil _ _ _ _⟩
theorem TRes.up {W W':World} {B:Nat} {v:Value} {D X:List Int} (h:TRes W B v D X) (E:Below W.heap.size W W'):TRes W' B v D X:=by
 obtain ⟨s,t,e,I,H⟩:=h;exact ⟨s,t,e,I.up E,H.up E⟩
theorem TRes.low {W:World} {B H:Nat} {v:Value} {D X:List Int} (h:TRes W B v D X) (E:H<=B):TRes W H v D X:=by
 obtain ⟨s,t,e,J,I⟩:=h;exact ⟨s,t,e,J.low E,I.low E⟩
theorem TRes.set {W:World} {B b:Nat} {s t:Value} {D X:List Int} (H:OwnK .i64 3 W B s D) (E:OwnK .i64 48 W B t X) (hb:b < B):TRes (set2 W b s t) B (.agg #[s,t]) D X:=
 ⟨s,t,rfl,H.stay (Stay.set2 W s t) (H.off hb),E.stay (Stay.set2 W s t) (E.off hb)⟩
theorem a_j {w W:World} (h:Below w.heap.size w W) (b:Nat) (hb:w.heap.size<=b) (x y:Value):Below w.heap.size w (set2 W b x y):=a_8 h b hb x y
theorem h_v {w E W:World} {b:Nat} {s t R L:Value} {D X:List Int} (J:Hid (Cel E b R L)) (I:Hid (Below w.heap.size w E)) (O:Below E.heap.size E W) (V:OwnK .i64 3 W E.heap.size s D) (U:OwnK .i64 48 W E.heap.size t X) (hb:w.heap.size<=b):Hid (TRes (set2 W b s t) w.heap.size (.agg #[s,t]) D X/\Below w.heap.size w (set2 W b s t))/\W.cell? ⟨b,0,none⟩=some R/\W.cell? ⟨b,1,none⟩=some L/\W.frozen? ⟨b,0,none⟩=false/\W.frozen? ⟨b,1,none⟩=false/\(set2 W b s t).cell? ⟨b,0,none⟩=some s/\(set2 W b s t).cell? ⟨b,1,none⟩=some t:=by
 have H:=J.out.up O;have M:=H.set s t;exact ⟨⟨(TRes.set V U (a_a J.out.1)).low I.out.size,a_j (a_c I.out O) _ hb _ _⟩,H.1,H.2.1,H.2.2.1,H.2.2.2,M.1,M.2.1⟩
/-- Both spread and reckoned, number by number. -/
def b_C (d x d' y:List Int):Int:=if isP d x/\isP d' y then b_x d d' else 1
def b_J (d x d' y:List Int):List Int:=if isP d x/\isP d' y then b_W d d' else []
def b_Z (op:Int->Int->Int) (d x d' y:List Int):List Int:=
 if (isP d x/\isP d' y)/\b_x d d'=0 then (List.range (a_e (ntl (b_W d d')))).map fun i=>op (x.getD (b_U (ntl d) (ntl (b_W d d')) i) 0) (y.getD (b_U (ntl d') (ntl (b_W d d')) i) 0) else []
theorem f_w {op:Int->Int->Int} {d x d' y:List Int} (h:¬ (isP d x/\isP d' y)):b_C d x d' y=1/\b_J d x d' y = []/\b_Z op d x d' y = []:=⟨if_neg h,if_neg h,if_neg fun D=>h D.1⟩
theorem l_M {a b:List Int} (h:b_x a b≠0):b_W a b = []:=by
 unfold b_W;rw [if_neg];rintro ⟨I,H,E,D⟩;apply h;unfold b_x;rw [if_pos ⟨I,H⟩,if_pos E,if_pos D]
theorem j_E {op:Int->Int->Int} {d x d' y:List Int} (h:isP d x/\isP d' y) (D:b_x d d'≠0):b_C d x d' y=b_x d d'/\b_J d x d' y = []/\b_Z op d x d' y = []:=
 ⟨if_pos h,by unfold b_J;rw [if_pos h];exact l_M D,if_neg fun E=>D E.2⟩
/-- Both fit: what stands where. -/
structure Joint (d x d' y:List Int) (a b J:List Nat):Prop where
 da:d=itl a
 db:d'=itl b
 ga:goodN a
 gb:goodN b
 gJ:goodN J
 jn:b_W d d'=itl J
 je:b_x d d'=0
 lx:x.length=a_e a
 ly:y.length=a_e b
 fa:b_2 a J
 ja:joinN a J=J
 fb:b_2 b J
 jb:joinN b J=J
theorem n_3 {d x d' y:List Int} (h:isP d x/\isP d' y) (M:b_x d d'=0):∃ a b J,Joint d x d' y a b J:=by
 obtain ⟨V,U,H,I⟩:=g_e M;obtain ⟨a,D,rfl⟩:=b_n V;obtain ⟨b,E,rfl⟩:=b_n U;rw [a_p,a_p] at H I;have R:=(b_u D E H I).1;have L:=h.1.2;have O:=h.2.2;rw [a_p] at L O;refine ⟨a,b,joinN a b,rfl,rfl,D,E,I,R,M,L,O,?_,?_,?_,?_⟩
 ·rw [e_r];exact f_b D.2.1 E.2.1 H
 ·rw [b_5,f_c]
 ·rw [e_r,b_5 a b];exact f_b E.2.1 D.2.1 ((e_r _ _).1 H)
 ·rw [b_5 b,b_5 a b,f_c]
theorem Joint.E {op:Int->Int->Int} {d x d' y:List Int} {a b J:List Nat} (h:Joint d x d' y a b J):b_C d x d' y=0/\b_J d x d' y=itl J/\b_Z op d x d' y=(List.range (a_e J)).map fun i=>op (x.getD (b_U a J i) 0) (y.getD (b_U b J i) 0):=by
 have D:isP d x/\isP d' y:=by
  rw [h.da,h.db];unfold isP;rw [a_p,a_p];exact ⟨⟨h.ga,h.lx⟩,h.gb,h.ly⟩
 refine ⟨?_,?_,?_⟩
 ·unfold b_C;rw [if_pos D];exact h.je
 ·unfold b_J;rw [if_pos D];exact h.jn
 ·unfold b_Z;rw [if_pos ⟨D,h.je⟩,h.jn,a_p];rw [h.da,h.db,a_p,a_p]
end Go.Proofs.YtcpbhhlepdgdkaaGreatDoor.Wd
namespace Go.Proofs.YtcpbhhlepdgdkaaGreatDoor.Wd
open Go.RowKit Fx
theorem d_b {a b:List Int} (h:a.length=b.length) (H:∀ i,i < a.length->a.getD i 0=b.getD i 0):a=b:=by
 refine List.ext_getElem h fun i D E=>?_;have:=H i D;rwa [List.getD_eq_getElem?_getD,List.getElem?_eq_getElem D,List.getD_eq_getElem?_getD,List.getElem?_eq_getElem E] at this
theorem i_z (p p2:Option Addr) (n c E c2:Nat) (a b:List Int) (hn:n<=1073741824) (w:World) (h1:Nums .i64 w (.slice p n c) a) (O:Nums .i64 w (.slice p2 E c2) b):
  Calls Tryz.prog 14 #[.slice p n c,.slice p2 E c2] w fun e w'=>e = .returned (.bool (decide (a=b)))/\Below w.heap.size w w':=by
 haveI:Nonempty World:=⟨w⟩
 obtain ⟨r,D⟩:∃ r:Bool,decide (a=b)=r:=⟨_,rfl⟩
 have V:Hid (decide (a=b)=r):=D;obtain ⟨_,_,_,e1,U⟩:=h1.lst;cases e1;obtain ⟨_,_,_,e2,HC⟩:=O.lst;cases e2;rw [D];clear D h1 O;go_enter Tryz.func14,Tryz.ntmps14;by_cases H:n=E
 case neg=>
  have D:r=false:=by rw [<- V.out,decide_eq_false fun h=>H (by rw [<- U.out.1,<- HC.out.1,h])]
  subst D;have ad:((n:Int) != (E:Int))=true:=by simpa using (show (n:Int)≠(E:Int) by omega)
  have aa:¬ ((n:Int)=(E:Int)):=by omega
  go_wp2;go_ret;exact ⟨rfl,Below.refl _ _⟩
 subst H;go_wp2_with fail
 go_loopg [5] n (fun gg v wr=>∃ (k:Nat),k<=n/\gg=n - k/\v = .int .i64 (k:Int)/\Hid (∀ i,i < k->a.getD i 0=b.getD i 0)/\Hid (Below w.heap.size w wr))
 case atStart=>exact ⟨0,by omega,by omega,rfl,fun i R=>by omega,Below.refl _ _⟩
 case round=>
  obtain ⟨k,hk,hg,rfl,Hx,J⟩:=hrel;by_cases I:k < n
  ·have ac:(k:Int) < (n:Int):=by omega
   obtain ⟨qa,oa,rfl,a1⟩:=U.out.2 k I;obtain ⟨qb,ob,rfl,b1⟩:=HC.out.2 k I;have a0:=a_d a1 J.out;have b0:=a_d b1 J.out;obtain ⟨u,M⟩:∃ u,a.getD k 0=u:=⟨_,rfl⟩
   obtain ⟨v,L⟩:∃ v,b.getD k 0=v:=⟨_,rfl⟩
   rw [M] at a0;rw [L] at b0;clear a1 b1;by_cases he:u=v
   ·subst he
    have HN:Hid (∀ i,i < k+1->a.getD i 0=b.getD i 0):=fun i R=>by
     rcases Nat.lt_succ_iff_lt_or_eq.1 R with O|rfl
     ·exact Hx.out i O
     ·rw [M,L]
    clear M L;go_wp2;go_region;go_wp2;go_roundg (n - (k+1))
    case measure=>omega
    case rel=>exact ⟨k+1,by omega,rfl,by first|rfl|simp,HN,J.out.trans ⟨rfl,rfl,rfl,Nat.le_refl _,fun _ _=>rfl⟩⟩
   ·have D:r=false:=by rw [<- V.out,decide_eq_false fun h=>he (by rw [<- M,<- L,h])]
    subst D;have ab:(u != v)=true:=by simpa using he
    clear M L;go_wp2;go_region;go_wp2;go_ret;exact ⟨rfl,J.out.trans ⟨rfl,rfl,rfl,Nat.le_refl _,fun _ _=>rfl⟩⟩
  ·obtain rfl:k=n:=by omega
   have D:r=true:=by
    rw [<- V.out,decide_eq_true (d_b (by rw [U.out.1,HC.out.1]) fun i R=>Hx.out i (by rw [<- U.out.1];exact R))]
   subst D;go_wp2;go_ret;exact ⟨rfl,J.out⟩
end Go.Proofs.YtcpbhhlepdgdkaaGreatDoor.Wd
