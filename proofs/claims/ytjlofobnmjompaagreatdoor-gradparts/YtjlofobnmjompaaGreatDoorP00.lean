/- A slice of integers that came in: what a -/
import Derived.WalkKit
import Derived.ProofKit
import Derived.OpenShut
import Derived.ChangeSlices
import Derived.Carry
import Derived.WalkSpells
import Derived.Handy
import Derived.Deep.AppendSrc
import Derived.OwnWalk
import Derived.Laws.AppendOwnNone
import Derived.Laws.OwnMore
import Derived.OneCell
import Derived.RowKit
import Derived.Test.YtjlofobnmjompaaGreatDoorProg
import Derived.Deep.LoopGhost
import Derived.Deep.Draws
import Derived.BigQuiet
import Derived.Deep.QuietTactic
import Derived.WalkSmall
set_option linter.unusedVariables false
set_option linter.unusedSimpArgs false
set_option maxHeartbeats 16000000
set_option maxRecDepth 16000
namespace Go.Proofs.YtjlofobnmjompaaGreatDoor.Wd
open Go.ChangeShapes Go.WideShapes Go.ChangeAt Go.RowKit
/-- The slice's elements are the numbers z 0, z 1 .. , each fitting its kind; where it has one, they lie one behind the other in a block. -/
def Row (k:IntKind) (W:World) (p:Option Addr) (n c:Nat) (z:Nat->Int):Prop:=
 n<=c/\c<=9223372036854775807/\(∀ i,i < n->(Lit.int k (z i)).wf=true)/\(0 < n->∃ b o,p=some ⟨b,o,none⟩/\b < W.heap.size/\∀ i,i < n->W.cell? ⟨b,o+i,none⟩=some (.int k (z i)))
theorem c_1 {W:World} {a:Addr} {v:Value} (h:W.cell? a=some v):a=⟨a.block,a.off,none⟩:=by
 unfold World.cell? at h
 split at h
 ·obtain ⟨b,o,s⟩:=a;cases s with
  | none=>rfl
  | some x=>simp at h
 ·cases h
theorem a_g {W:World} {b o:Nat} {v:Value} (h:W.cell? ⟨b,o,none⟩=some v):b < W.heap.size:=by
 by_cases c:b < W.heap.size
 ·exact c
 ·exfalso;unfold World.cell? at h;rw [show W.heap[b]?=none from by simp;omega] at h;simp at h
theorem n_w {H:Type} {enc:TypeId×Value->H} {P:Program} {W:World} {t e:TypeId} {k:IntKind} {a:Option Addr} {n c:Nat} {d:DataW H} {ps:List MemPlace} (ht:P.underlying t=some (.slice e)) (he:P.underlying e=some (.int k)) (V:P.cellsOf e=1)
  (h:DataW.Trod enc P W 0 (fun _=>true) true t (.slice a n c) d ps):∃ z,Row k W a n c z:=by
 obtain ⟨fuel,hf⟩:=h;rcases open_ints ht he V hf with ⟨D,_⟩|⟨x,l,c',zs,D,_,R,hm,hz,_,E,L⟩
 ·simp [Value.cells] at D;obtain ⟨rfl,rfl,rfl⟩:=D;exact ⟨fun _=>0,by omega,by omega,fun i M=>by omega,fun h=>by omega⟩
 ·simp [Value.cells] at D;obtain ⟨rfl,rfl,rfl⟩:=D;have U:zs.length=c:=by simpa using hz
  refine ⟨fun i=>zs.getD i 0,R,by unfold maxLen at hm;omega,fun i M=>L _ ?_,fun h=>?_⟩
  ·show zs.getD i 0∈zs;rw [List.getD_eq_getElem?_getD,List.getElem?_eq_getElem (by omega)];exact List.getElem_mem _
  ·have J:=E 0 (by omega);have O:x.add 0=x:=by simp [Addr.add]
   rw [O] at J;have I:=c_1 J;refine ⟨x.block,x.off,by rw [<- I],?_,fun i M=>?_⟩
   ·rw [I] at J;exact a_g J
   ·have:=E i (by omega);rw [<- this]
    congr 1
    unfold Addr.add
    split
    ·rename_i h;subst h;rw [Nat.add_zero];exact I.symm
    ·rw [I]
/-- The same, and a nil slice has no room. -/
def RowN (k:IntKind) (W:World) (p:Option Addr) (n c:Nat) (z:Nat->Int):Prop:=Row k W p n c z/\(p=none->n=0/\c=0)
theorem open_rowN {H:Type} {enc:TypeId×Value->H} {P:Program} {W:World} {t e:TypeId} {k:IntKind} {a:Option Addr} {n c:Nat} {d:DataW H} {ps:List MemPlace} (I:P.underlying t=some (.slice e)) (he:P.underlying e=some (.int k)) (E:P.cellsOf e=1)
  (h:DataW.Trod enc P W 0 (fun _=>true) true t (.slice a n c) d ps):∃ z,RowN k W a n c z:=by
 obtain ⟨z,L⟩:=n_w I he E h;refine ⟨z,L,fun J=>?_⟩;subst J;obtain ⟨fuel,hf⟩:=h;rcases open_ints I he E hf with ⟨D,_⟩|⟨x,l,M,zs,D,_⟩
 ·simp [Value.cells] at D;exact D
 ·simp [Value.cells] at D
end Go.Proofs.YtjlofobnmjompaaGreatDoor.Wd
namespace Go.Proofs.YtjlofobnmjompaaGreatDoor.Wd
open Go.RowKit
theorem c_u {W:World} {a:Addr} {v:Value} (h:W.cell? a=some v):a.block < W.heap.size:=by
 by_cases c:a.block < W.heap.size
 ·exact c
 ·exfalso;unfold World.cell? at h;rw [show W.heap[a.block]?=none from by simp;omega] at h;simp at h
theorem a_u (b o j:Nat):(⟨b,o,none⟩:Addr).add j=⟨b,o+j,none⟩:=by
 unfold Addr.add
 split
 ·rename_i h;rw [h,Nat.add_zero]
 ·rfl
theorem a_h {W W':World} {a:Addr} {v:Value} (hb:Below W.heap.size W W') (h:W.cell? a=some v):W'.cell? a=some v:=by
 rw [hb.cell (p:=a) (c_u h)];exact h
def b_e (k:IntKind) (l:List Int):List Value:=l.map (Value.int k)
theorem g_u (k:IntKind) (l:List Int):∀ u∈b_e k l,u.oneCell'=true:=by
 intro u D;obtain ⟨x,_,rfl⟩:=List.mem_map.1 D;rfl
theorem n_x (k:IntKind) (l:List Int) (j:Nat) (x:Int):(b_e k l).set j (.int k x)=b_e k (l.set j x):=by
 unfold b_e;rw [List.map_set]
theorem g_v (k:IntKind) (l:List Int) (j:Nat) (h:j < l.length):(b_e k l)[j]?=some (.int k (l.getD j 0)):=by
 unfold b_e;rw [List.getElem?_map,List.getElem?_eq_getElem h,List.getD_eq_getElem?_getD,List.getElem?_eq_getElem h];rfl
/-- The slice's numbers are these. -/
def Nums (k:IntKind) (W:World) (v:Value) (l:List Int):Prop:=
 (v = .slice none 0 0/\l = [])∨∃ ad c,v = .slice (some ad) l.length c/\∀ j u,(b_e k l)[j]?=some u->W.cell? (ad.add j)=some u
theorem Nums.up {k:IntKind} {W W':World} {v:Value} {l:List Int} (h:Nums k W v l) (hb:Below W.heap.size W W'):Nums k W' v l:=by
 rcases h with h|⟨E,c,rfl,h⟩
 ·exact .inl h
 ·exact .inr ⟨E,c,rfl,fun j u D=>a_h hb (h j u D)⟩
theorem Nums.view {k:IntKind} {W:World} {v:Value} {l:List Int} (h:Nums k W v l):∃ p c,v = .slice p l.length c/\∀ j,j < l.length->∃ q o,p=some ⟨q,o,none⟩/\W.cell? ⟨q,o+j,none⟩=some (.int k (l.getD j 0)):=by
 rcases h with ⟨rfl,rfl⟩|⟨H,c,rfl,h⟩
 ·exact ⟨none,0,rfl,fun j E=>by simp at E⟩
 ·refine ⟨_,c,rfl,fun j E=>?_⟩;have I:=h 0 _ (g_v k l 0 (by omega));have D:=h j _ (g_v k l j E);have:=c_1 (show W.cell? H=_ from I);obtain ⟨q,o,J⟩:=H;cases this;rw [a_u] at D;exact ⟨q,o,rfl,D⟩
/-- A slice that came in, as a list. -/
def l_c (n:Nat) (z:Nat->Int):List Int:=(List.range n).map z
theorem j_d (n:Nat) (z:Nat->Int):(l_c n z).length=n:=by simp [l_c]
theorem n_y (n:Nat) (z:Nat->Int) (j:Nat) (h:j < n):(l_c n z)[j]?=some (z j):=by simp [l_c,h]
theorem RowN.wf {k:IntKind} {W:World} {p:Option Addr} {n c:Nat} {z:Nat->Int} (h:RowN k W p n c z):∀ y,y∈l_c n z->(Lit.int k y).wf=true:=by
 intro y D;obtain ⟨i,E,rfl⟩:=List.mem_map.1 D;exact h.1.2.2.1 i (List.mem_range.1 E)
theorem RowN.nums {k:IntKind} {W:World} {p:Option Addr} {n c:Nat} {z:Nat->Int} (h:RowN k W p n c z):Nums k W (.slice p n c) (l_c n z):=by
 cases p with
 | none=>
  obtain ⟨rfl,rfl⟩:=h.2 rfl;exact .inl ⟨rfl,rfl⟩
 | some ad=>
  refine .inr ⟨ad,c,by rw [j_d],fun j u H=>?_⟩;unfold b_e at H;rw [List.getElem?_map] at H;obtain ⟨x,E,rfl⟩:=Option.map_eq_some_iff.1 H
  have I:j < n:=by
   rcases Nat.lt_or_ge j n with h|h
   ·exact h
   ·rw [List.getElem?_eq_none (by rw [j_d];exact h)] at E;cases E
  rw [n_y n z j I] at E;cases E;obtain ⟨b,o,e,_,D⟩:=h.1.2.2.2 (by omega);cases e;rw [a_u];exact D j I
/-- A slice of the call's own holds these numbers. -/
def OwnK (k:IntKind) (e:TypeId) (W:World) (B:Nat) (v:Value) (l:List Int):Prop:=W.ownsRow B e 1 v l.length (b_e k l)
theorem OwnK.nums {k:IntKind} {e:TypeId} {W:World} {B:Nat} {v:Value} {l:List Int} (h:OwnK k e W B v l):Nums k W v l:=by
 rcases h.2 with ⟨H,D⟩|⟨g,cap,E,rfl,_⟩
 ·exact .inl ⟨H,by simpa using D⟩
 ·exact .inr ⟨⟨g,0,none⟩,cap,rfl,World.ownsRow.cells h rfl⟩
theorem OwnK.low {k:IntKind} {e:TypeId} {W:World} {B E:Nat} {v:Value} {l:List Int} (h:OwnK k e W B v l) (I:E<=B):OwnK k e W E v l:=by
 refine ⟨h.1,?_⟩;rcases h.2 with h|⟨g,cap,D,L,J,H⟩
 ·exact .inl h
 ·exact .inr ⟨g,cap,D,L,Nat.le_trans I J,H⟩
theorem OwnK.block {k:IntKind} {e:TypeId} {W:World} {B:Nat} {v:Value} {l:List Int} (h:OwnK k e W B v l):∀ j,v.ownBlock=some j->B<=j:=by
 intro j D;rcases h.2 with ⟨rfl,_⟩|⟨g,cap,H,rfl,E,_⟩
 ·cases D
 ·cases D;exact E
theorem OwnK.nil (k:IntKind) (e:TypeId) (W:World) (B:Nat):OwnK k e W B (.slice none 0 0) []:=⟨by simp [b_e],.inl ⟨rfl,rfl⟩⟩
/-- Where it is not empty, it lies in a block of its own. -/
theorem OwnK.at {k:IntKind} {e:TypeId} {W:World} {B:Nat} {v:Value} {l:List Int} (h:OwnK k e W B v l) (I:0 < l.length):∃ g c,v = .slice (some ⟨g,0,none⟩) l.length c/\B<=g:=by
 rcases h.2 with ⟨_,H⟩|⟨g,cap,E,rfl,D,_⟩
 ·omega
 ·exact ⟨g,cap,rfl,D⟩
/-- A cell of it is read, and stored into. -/
theorem OwnK.cell {k:IntKind} {e:TypeId} {W:World} {B g n c:Nat} {l:List Int} (h:OwnK k e W B (.slice (some ⟨g,0,none⟩) n c) l) (D:l.length=n) (j:Nat) (E:j < n):W.cell? ⟨g,j,none⟩=some (.int k (l.getD j 0))/\W.frozen? ⟨g,j,none⟩=false:=by
 subst D;exact ⟨by rw [World.ownsRow.cellAt h j (by omega),g_v k l j E],World.ownsRow.frozenAt h j⟩
theorem OwnK.store {k:IntKind} {e:TypeId} {W:World} {B g n c:Nat} {l:List Int} (h:OwnK k e W B (.slice (some ⟨g,0,none⟩) n c) l) (D:l.length=n) (j:Nat) (x:Int):OwnK k e (W.setCell ⟨g,j,none⟩ (.int k x)) B (.slice (some ⟨g,0,none⟩) n c) (l.set j x):=by
 subst D;have:=(World.ownsRow.stored h j (.int k x)).1;unfold OwnK;rw [<- n_x,List.length_set];exact this
/-- The facts of a type of slices of integers. -/
structure NumT (P:Program) (t e:TypeId) (k:IntKind) (b:Nat):Prop where
 ht:P.underlying t=some (.slice e)
 hi:(P.info? e).map (fun i=>(i.zero,i.size,i.bytes))=some (some (.int k 0),1,b)
theorem g_w {P:Program} {t e:TypeId} {k:IntKind} {b:Nat} (T:NumT P t e k b):∃ D,P.info? e=some D/\D.zero=some (.int k 0)/\D.size=1/\D.bytes=b:=by
 have:=T.hi;cases h:P.info? e with
 | none=>rw [h] at this;cases this
 | some i=>
  rw [h] at this;simp only [Option.map_some,Option.some.injEq,Prod.mk.injEq] at this;exact ⟨i,rfl,this.1,this.2.1,this.2.2⟩
/-- append of numbers, whatever they are, behind numbers of the call's own. -/
theorem a_E {P:Program} {t e:TypeId} {k:IntKind} {b:Nat} (T:NumT P t e k b) (R:b<=8) {ops:Array Oper} {rest:List Oper} {o:Oper} {a:Act} {Q:Exit->Act->World->Prop} {w:World} (H:o.guard=none) (s x:Operand)
  (ho:o.op = .call { callee:=.builtin .append,args:=#[s,x],argTypes:=#[t,t] }) (B:Nat) (L:Value) (E:List Int) (hs:a.eval s=L) (D:OwnK k e w B L E)
  (v:Value) (l:List Int) (hx:a.eval x=v) (hb:Nums k w v l) (I:E.length+l.length<=1073741824) (hB:B<=w.heap.size) (w0:World) (J:Below B w0 w)
  (h:∀ O M,Hid (OwnK k e M B O (E++l))->Below B w0 M->wpList P ops Q rest (a.put o.dst O) M):wpList P ops Q (o :: rest) a w:=by
 obtain ⟨i0,hi,U,V,aa⟩:=g_w T;rcases hb with ⟨rfl,rfl⟩|⟨ad,c,rfl,hc⟩
 ·refine wpList_append_own_none H s x t ho B e i0 1 T.ht hi L E.length _ hs D hx ?_;exact h L w (show OwnK _ _ _ _ _ _ by rw [List.append_nil];exact D) J
 ·have hm:(E.length+l.length)*b<=1073741824*8:=Nat.mul_le_mul I R;refine wpList_append_own _ H s x t ho B e i0 (.int k 0) 1 b T.ht hi U V aa rfl (by decide) L E.length _ hs D ad l.length c (b_e k l) hx (by simp [b_e]) hc (g_u k l) (by unfold maxLen;omega) (by omega) hB ?_;intro O M h1 h2 h3;refine h O M ?_ (Below.grown J h2 hB D.block);show OwnK _ _ _ _ _ _;unfold OwnK b_e at *;simpa using h1
/-- make: as many noughts. -/
theorem a_y {P:Program} {t e:TypeId} {k:IntKind} {b:Nat} (T:NumT P t e k b) (H:b<=8) (w:World) {ops:Array Oper} {rest:List Oper} {o:Oper} {a:Act} {Q:Exit->Act->World->Prop}
  (hg:o.guard=none) (l c:Operand) (I:o.op=Op.makeSlice t l c) (U kc:IntKind) (L C:Int) (n:Nat) (hl:a.eval l = .int U L) (hc:a.eval c = .int kc C) (hL:L=(n:Int)) (hC:C=(n:Int)) (hn:n<=1073741824)
  (B:Nat) (V:World) (hB:B<=w.heap.size) (R:Below B V w)
  (hK:∀ D,Hid (OwnK k e D w.heap.size (.slice (some ⟨w.heap.size,0,none⟩) n n) (List.replicate n 0))->Below w.heap.size w D->Below B V D->wpList P ops Q rest (a.put o.dst (.slice (some ⟨w.heap.size,0,none⟩) n n)) D):
  wpList P ops Q (o :: rest) a w:=by
 obtain ⟨i0,hi,J,M,O⟩:=g_w T;have hm:b*n<=8*1073741824:=Nat.mul_le_mul H hn;refine wpList_make_full w hg l c t I w.heap.size e i0 (.int k 0) 1 T.ht hi J M U kc L C n hl hc hL hC (by rw [O];omega) (by unfold maxLen;omega) (Nat.le_refl _) ?_;intro D h1 h2;have E:Below w.heap.size w D:=Below.grown (Below.refl _ _) h2 (Nat.le_refl _) (fun j hj=>by cases hj);refine hK D ?_ E (R.trans (E.mono hB));show OwnK _ _ _ _ _ _;unfold OwnK b_e;rw [List.length_replicate,List.map_replicate]
 have e1:(madeCells (Value.int k 0).cells (n*1)).toList=List.replicate n (Value.int k 0):=by
  rw [Nat.mul_one];exact toList_madeCells_one _ _
 rw [e1] at h1;exact h1
/-- A literal's row. -/
theorem a_5 {k:IntKind} {e:TypeId} (W:World) (l:List Int) (n:Nat) (D:Nat×Nat) (h:l.length=n):Nums k (W.alloc (.cells (b_e k l).toArray e D)) (.slice (some ⟨W.heap.size,0,none⟩) n n) l:=.inr ⟨_,n,by rw [h],by
 intro j u E;rw [a_u,Nat.zero_add];unfold World.cell? World.alloc;simp only [Array.getElem?_push_size];simpa using E⟩
theorem b_6 {k:IntKind} {e:TypeId} (W:World) (l:List Int) (n:Nat) (h:l.length=n) (D:n<=1073741824):OwnK k e (W.alloc (.cells (b_e k l).toArray e)) W.heap.size (.slice (some ⟨W.heap.size,0,none⟩) n n) l:=by
 subst h;refine ⟨by simp [b_e],.inr ⟨W.heap.size,l.length,(b_e k l).toArray,rfl,Nat.le_refl _,?_,Nat.le_refl _,by unfold maxLen;omega,by simp [b_e],by rw [Nat.mul_one,List.take_of_length_le (by simp [b_e])]⟩⟩;show (W.heap.push _)[W.heap.size]?=_;simp
theorem OwnK.up {k:IntKind} {e:TypeId} {W W':World} {B:Nat} {v:Value} {l:List Int} (h:OwnK k e W B v l) (hb:Below W.heap.size W W'):OwnK k e W' B v l:=by
 refine ⟨h.1,?_⟩;rcases h.2 with h|⟨g,cap,D,L,I,E,H⟩
 ·exact .inl h
 ·refine .inr ⟨g,cap,D,L,I,?_,H⟩
  have J:g < W.heap.size:=by
   rcases Nat.lt_or_ge g W.heap.size with h|h
   ·exact h
   ·rw [Array.getElem?_eq_none h] at E;cases E
  rw [hb.block g J];exact E
structure Stay (g:Nat) (W W':World):Prop where
 size:W.heap.size<=W'.heap.size
 block:∀ b,b≠g->b < W.heap.size->W'.heap[b]?=W.heap[b]?
theorem Stay.refl (g:Nat) (W:World):Stay g W W:=⟨Nat.le_refl _,fun _ _ _=>rfl⟩
theorem Stay.trans {g:Nat} {a b c:World} (h:Stay g a b) (E:Stay g b c):Stay g a c:=
 ⟨Nat.le_trans h.size E.size,fun k H D=>(E.block k H (Nat.lt_of_lt_of_le D h.size)).trans (h.block k H D)⟩
theorem Stay.of {g:Nat} {a b:World} (h:Below a.heap.size a b):Stay g a b:=⟨h.size,fun k _ D=>h.block k D⟩
theorem Stay.up {g:Nat} {a b c:World} (h:Stay g a b) (D:Below b.heap.size b c):Stay g a c:=h.trans (Stay.of D)
theorem Stay.set {g:Nat} {a b:World} (h:Stay g a b) (o:Nat) (x:Value):Stay g a (b.setCell ⟨g,o,none⟩ x):=
 h.trans ⟨by simp,fun k D _=>Below.heap_setCell _ _ _ _ D⟩
theorem Stay.cell {g:Nat} {W W':World} {a:Addr} {v:Value} (h:Stay g W W') (D:W.cell? a=some v) (E:a.block≠g):W'.cell? a=some v:=by
 have hb:=c_u D;unfold World.cell? at D ⊢;rw [h.block _ E hb];exact D
theorem Stay.frozen {g:Nat} {W W':World} {b o:Nat} (h:Stay g W W') (hb:b < W.heap.size) (D:b≠g):W'.frozen? ⟨b,o,none⟩=W.frozen? ⟨b,o,none⟩:=by
 unfold World.frozen?;rw [h.block _ D hb]
theorem Stay.below {g:Nat} {w a b:World} (h:Stay g a b) (E:Below w.heap.size w a) (H:w.heap.size<=g) (D:Below w.heap.size w b):Below w.heap.size w b:=D
/-- A slice whose cells lie in blocks but g. -/
def Off (g:Nat) (v:Value):Prop:=∀ ad n c,v = .slice (some ad) n c->ad.block≠g
theorem Nums.stay {k:IntKind} {g:Nat} {W W':World} {v:Value} {l:List Int} (h:Nums k W v l) (I:Stay g W W') (E:Off g v):Nums k W' v l:=by
 rcases h with h|⟨D,c,rfl,h⟩
 ·exact .inl h
 ·refine .inr ⟨D,c,rfl,fun j u H=>I.cell (h j u H) ?_⟩;have:=E D _ _ rfl;unfold Addr.add
  split <;> exact this
/-- What was there before the block g was made. -/
theorem Nums.off {k:IntKind} {W:World} {v:Value} {l:List Int} (h:Nums k W v l) (H:l≠[]) {g:Nat} (J:W.heap.size<=g):Off g v:=by
 intro E n c e;rcases h with ⟨rfl,_⟩|⟨I,L,rfl,h⟩
 ·cases e
 ·cases e;obtain ⟨x,D,rfl⟩:∃ x D,l=x :: D:=by cases l with|nil=>exact absurd rfl H|cons x D=>exact ⟨x,D,rfl⟩
  have:=h 0 (.int k x) rfl;have:=c_u this;intro e;rw [show (E.add 0)=E by unfold Addr.add;simp] at this;omega
theorem OwnK.off {k:IntKind} {e:TypeId} {W:World} {B g:Nat} {v:Value} {l:List Int} (h:OwnK k e W B v l) (J:g < B):Off g v:=by
 intro L n c D;rcases h.2 with ⟨E,_⟩|⟨q,cap,H,E,I,_⟩
 ·rw [E] at D;cases D
 ·rw [E] at D;cases D;show q≠g;omega
theorem OwnK.stay {k:IntKind} {e:TypeId} {W W':World} {B g:Nat} {v:Value} {l:List Int} (h:OwnK k e W B v l) (O:Stay g W W') (M:Off g v):OwnK k e W' B v l:=by
 refine ⟨h.1,?_⟩;rcases h.2 with h|⟨q,cap,D,H,J,E,I⟩
 ·exact .inl h
 ·refine .inr ⟨q,cap,D,H,J,?_,I⟩
  have L:q < W.heap.size:=by
   rcases Nat.lt_or_ge q W.heap.size with h|h
   ·exact h
   ·rw [Array.getElem?_eq_none h] at E;cases E
  rw [O.block q (M _ _ _ H) L];exact E
theorem OwnK.size {k:IntKind} {e:TypeId} {W:World} {B g n c:Nat} {l:List Int} (h:OwnK k e W B (.slice (some ⟨g,0,none⟩) n c) l):g < W.heap.size:=by
 rcases h.2 with ⟨D,_⟩|⟨q,cap,H,D,J,E,I⟩
 ·cases D
 ·cases D;rcases Nat.lt_or_ge g W.heap.size with h|h
  ·exact h
  ·rw [Array.getElem?_eq_none h] at E;cases E
def a_e:List Nat->Nat
 | []=>1
 | d :: ds=>d*a_e ds
theorem a_D:∀ a b:List Nat,a_e (a++b)=a_e a*a_e b
 | [],b=>by simp [a_e]
 | d :: a,b=>by simp [a_e,a_D a b,Nat.mul_assoc]
theorem a_B:∀ {d:List Nat},(∀ x,x∈d->1<=x)->1<=a_e d
 | [],_=>Nat.le_refl _
 | x :: d,h=>by
  have H:=h x List.mem_cons_self;have E:=a_B (d:=d) fun y D=>h y (List.mem_cons_of_mem _ D);exact Nat.mul_pos H E
/-- A shape's numbers. -/
abbrev goodN (d:List Nat):Prop:=d.length<=4/\(∀ x,x∈d->1<=x)/\a_e d<=4096
theorem e_H:∀ {d:List Nat},(∀ x,x∈d->1<=x)->∀ x,x∈d->x<=a_e d
 | y :: d,h,x,E=>by
  have H:=a_B (d:=d) fun y D=>h y (List.mem_cons_of_mem _ D);have D:=h y List.mem_cons_self;rcases List.mem_cons.1 E with rfl|E
  ·exact Nat.le_mul_of_pos_right _ H
  ·exact Nat.le_trans (e_H (fun y D=>h y (List.mem_cons_of_mem _ D)) x E) (Nat.le_mul_of_pos_left _ D)
theorem goodN.le {d:List Nat} (h:goodN d):∀ x,x∈d->x<=4096:=fun x D=>Nat.le_trans (e_H h.2.1 x D) h.2.2
theorem d_X {d:List Nat} (h:∀ x,x∈d->1<=x) (k:Nat):a_e (d.take k)<=a_e d:=by
 have e:a_e d=a_e (d.take k)*a_e (d.drop k):=by rw [<- a_D,List.take_append_drop]
 have:=a_B (d:=d.drop k) fun x D=>h x (List.mem_of_mem_drop D);rw [e];exact Nat.le_mul_of_pos_right _ this
theorem d_Y {d:List Nat} (h:∀ x,x∈d->1<=x) (k:Nat):a_e (d.drop k)<=a_e d:=by
 have e:a_e d=a_e (d.take k)*a_e (d.drop k):=by rw [<- a_D,List.take_append_drop]
 have:=a_B (d:=d.take k) fun x D=>h x (List.mem_of_mem_take D);rw [e];exact Nat.le_mul_of_pos_left _ this
theorem b_D (d:List Nat) (k:Nat) (h:k < d.length):a_e (d.take (k+1))=a_e (d.take k)*d[k]:=by
 rw [List.take_succ_eq_append_getElem h,a_D];simp [a_e]
theorem b_7 (d:List Nat) (k:Nat) (h:k < d.length):a_e (d.drop k)=d[k]*a_e (d.drop (k+1)):=by
 rw [List.drop_eq_getElem_cons h];rfl
/-- How far it is from one to the next along each. -/
def a_x:List Nat->List Nat
 | []=>[]
 | _ :: ds=>a_e ds :: a_x ds
theorem b_Q:∀ d,(a_x d).length=d.length
 | []=>rfl
 | _ :: ds=>by simp [a_x,b_Q ds]
theorem c_2:∀ (d:List Nat) (k:Nat),k < d.length->(a_x d)[k]?=some (a_e (d.drop (k+1)))
 | [],k,h=>by simp at h
 | _ :: ds,0,h=>by simp [a_x]
 | _ :: ds,k+1,h=>by
  simp only [a_x,List.getElem?_cons_succ,List.drop_succ_cons];exact c_2 ds k (by simpa using h)
/-- The number of a place, and back. -/
def c_v:List Nat->List Nat->Nat
 | _ :: ds,p :: ps=>p*a_e ds+c_v ds ps
 | _,_=>0
def a_T:List Nat->Nat->List Nat
 | [],_=>[]
 | _ :: ds,at_=>at_ / a_e ds :: a_T ds (at_ % a_e ds)
theorem c_w:∀ d a,(a_T d a).length=d.length
 | [],_=>rfl
 | _ :: ds,a=>by simp [a_T,c_w ds]
theorem d_o:∀ (d:List Nat) (a:Nat),(∀ x,x∈d->1<=x)->a < a_e d->c_v d (a_T d a)=a
 | [],a,_,h=>by simp [a_e] at h;simp [c_v,h]
 | x :: ds,a,h,ha=>by
  have E:=a_B (d:=ds) fun y D=>h y (List.mem_cons_of_mem _ D);rw [a_T,c_v,d_o ds _ (fun y D=>h y (List.mem_cons_of_mem _ D)) (Nat.mod_lt _ E),Nat.mul_comm];exact Nat.div_add_mod a (a_e ds)
/-- Each number of a place is below its side. -/
def d_Z:List Nat->List Nat->Prop
 | d :: ds,p :: ps=>p < d/\d_Z ds ps
 | [],[]=>True
 | _,_=>False
theorem c_j:∀ (d:List Nat) (a:Nat),(∀ x,x∈d->1<=x)->a < a_e d->d_Z d (a_T d a)
 | [],_,_,_=>trivial
 | x :: ds,a,h,ha=>by
  have E:=a_B (d:=ds) fun y D=>h y (List.mem_cons_of_mem _ D);refine ⟨Nat.div_lt_of_lt_mul (by rw [Nat.mul_comm];exact ha),c_j ds _ (fun y D=>h y (List.mem_cons_of_mem _ D)) (Nat.mod_lt _ E)⟩
theorem f_5:∀ {d p:List Nat},d_Z d p->p.length=d.length
 | [],[],_=>rfl
 | _ :: ds,_ :: ps,h=>by simp [f_5 h.2]
 | [],_ :: _,h=>h.elim
 | _ :: _,[],h=>h.elim
theorem f_6:∀ {d p:List Nat},d_Z d p->∀ (k:Nat) (x y:Nat),d[k]?=some x->p[k]?=some y->y < x
 | _ :: _,_ :: _,h,0,x,y,hx,hy=>by
  simp at hx hy;subst hx hy;exact h.1
 | _ :: ds,_ :: ps,h,k+1,x,y,hx,hy=>f_6 h.2 k x y (by simpa using hx) (by simpa using hy)
 | [],[],_,k,x,y,hx,_=>by simp at hx
 | [],_ :: _,h,_,_,_,_,_=>h.elim
 | _ :: _,[],h,_,_,_,_,_=>h.elim
theorem h_p:∀ {d p:List Nat},p.length=d.length->(∀ (k:Nat) (x y:Nat),d[k]?=some x->p[k]?=some y->y < x)->d_Z d p
 | [],[],_,_=>trivial
 | d :: ds,p :: ps,hl,h=>⟨h 0 d p rfl rfl,h_p (by simpa using hl) fun k x y E D=>h (k+1) x y (by simpa using E) (by simpa using D)⟩
 | [],_ :: _,hl,_=>by simp at hl
 | _ :: _,[],hl,_=>by simp at hl
theorem l_d:∀ {d p:List Nat},d_Z d p->c_v d p < a_e d
 | [],[],_=>by simp [c_v,a_e]
 | d :: ds,p :: ps,h=>by
  have E:=l_d h.2;have D:(p+1)*a_e ds<=d*a_e ds:=Nat.mul_le_mul_right _ h.1;rw [Nat.add_mul] at D;simp only [c_v,a_e];omega
 | [],_ :: _,h=>h.elim
 | _ :: _,[],h=>h.elim
/-- The same, of the first k sides. -/
def r_e (d p:List Nat):Nat->Nat
 | 0=>0
 | k+1=>r_e d p k*d.getD k 0+p.getD k 0
/-- A place's k-th number, by the sides behind it. -/
theorem f_7:∀ (d:List Nat) (a k:Nat),(∀ x,x∈d->1<=x)->a < a_e d->(H:k < d.length)->(a_T d a)[k]?=some (a / a_e (d.drop (k+1)) % d[k])
 | x :: ds,a,0,h,ha,H=>by
  simp only [a_T,List.getElem?_cons_zero,List.drop_succ_cons,List.drop_zero,List.getElem_cons_zero];rw [Nat.mod_eq_of_lt (Nat.div_lt_of_lt_mul (by rw [Nat.mul_comm];exact ha))]
 | x :: ds,a,k+1,h,ha,H=>by
  have E:∀ y,y∈ds->1<=y:=fun y I=>h y (List.mem_cons_of_mem _ I);have L:=a_B E;have D:k < ds.length:=by simpa using H
  simp only [a_T,List.getElem?_cons_succ,List.drop_succ_cons,List.getElem_cons_succ];rw [f_7 ds (a % a_e ds) k E (Nat.mod_lt _ L) D]
  congr 1
  have e:a_e ds=a_e (ds.take k)*(ds[k]*a_e (ds.drop (k+1))):=by rw [<- b_7 ds k D,<- a_D,List.take_append_drop]
  generalize M:a_e (ds.drop (k+1))=P at *;have O:1<=P:=by rw [<- M];exact a_B fun y I=>E y (List.mem_of_mem_drop I)
  have J:1<=ds[k]:=E _ (List.getElem_mem D);generalize ds[k]=K at *;generalize a_e (ds.take k)=T at *;rw [e,show T*(K*P)=P*(K*T) by rw [Nat.mul_comm T,Nat.mul_comm K P,Nat.mul_assoc],Nat.mod_mul_right_div_self,Nat.mod_mul_right_mod]
/-- What is left of a number behind the sides from k on. -/
theorem n_z (d:List Nat) (a k:Nat) (D:k < d.length):a / a_e (d.drop (k+1)) / d[k]=a / a_e (d.drop k):=by
 rw [Nat.div_div_eq_div_mul,b_7 d k D,Nat.mul_comm]
/-- The sum of products, of the first k. -/
def h_k (p s:List Nat):Nat->Nat
 | 0=>0
 | k+1=>h_k p s k+p.getD k 0*s.getD k 0
theorem h_q (D E:Nat) (p s:List Nat):∀ k,h_k (D :: p) (E :: s) (k+1)=D*E+h_k p s k
 | 0=>by simp [h_k]
 | k+1=>by
  rw [h_k,h_q D E p s k,h_k];simp only [List.getD_cons_succ];omega
theorem c_3:∀ (d p:List Nat),p.length=d.length->h_k p (a_x d) d.length=c_v d p
 | [],[],_=>rfl
 | d :: ds,p :: ps,h=>by
  rw [a_x,List.length_cons,h_q,c_3 ds ps (by simpa using h),c_v]
 | [],_ :: _,h=>by simp at h
 | _ :: _,[],h=>by simp at h
/-- The i-th side from the last on (from 1), 1 where there is none. -/
def a_V (l:List Nat) (i:Nat):Nat:=if i<=l.length then l.getD (l.length - i) 1 else 1
theorem c_x {l:List Nat} (h:∀ x,x∈l->1<=x) (i:Nat):1<=a_V l i:=by
 unfold a_V
 split
 ·rw [List.getD_eq_getElem?_getD];cases D:l[l.length - i]? with
  | none=>exact Nat.le_refl _
  | some x=>exact h x (List.mem_of_getElem? D)
 ·exact Nat.le_refl _
theorem d_0 (l:List Nat) (j:Nat) (h:j < l.length):l[j]?=some (a_V l (l.length - j)):=by
 unfold a_V;rw [if_pos (by omega),show l.length - (l.length - j)=j by omega,List.getD_eq_getElem?_getD,List.getElem?_eq_getElem h];rfl
theorem e_O {a b:List Nat} (E:a.length=b.length) (h:∀ i,1<=i->i<=a.length->a_V a i=a_V b i):a=b:=by
 refine List.ext_getElem? fun j=>?_;by_cases D:j < a.length
 ·rw [d_0 a j D,d_0 b j (by omega),h (a.length - j) (by omega) (by omega),E]
 ·rw [List.getElem?_eq_none (by omega),List.getElem?_eq_none (by omega)]
/-- The list of n sides. -/
def e_5 (n:Nat) (f:Nat->Nat):List Nat:=(List.range n).map fun j=>f (n - j)
theorem e_6 (n:Nat) (f:Nat->Nat):(e_5 n f).length=n:=by simp [e_5]
theorem h_r (n:Nat) (f:Nat->Nat) (i:Nat) (D:1<=i) (h:i<=n):a_V (e_5 n f) i=f i:=by
 unfold a_V;rw [e_6,if_pos h,List.getD_eq_getElem?_getD,e_5,List.getElem?_map,List.getElem?_range (by omega)];simp only [Option.map_some,Option.getD_some];rw [show n - (n - i)=i by omega]
theorem c_4 (l:List Nat) (i:Nat) (h:l.length < i):a_V l i=1:=by
 unfold a_V;rw [if_neg (by omega)]
def joinN (a b:List Nat):List Nat:=e_5 (max a.length b.length) fun i=>max (a_V a i) (a_V b i)
abbrev j_e (x y:Nat):Prop:=x=y∨x=1∨y=1
def b_X (a b:List Nat):Prop:=∀ i,1<=i->i<=max a.length b.length->j_e (a_V a i) (a_V b i)
theorem a_6 (a b:List Nat):(joinN a b).length=max a.length b.length:=e_6 _ _
theorem b_q (a b:List Nat) (i:Nat) (h:1<=i):a_V (joinN a b) i=max (a_V a i) (a_V b i):=by
 by_cases D:i<=max a.length b.length
 ·exact h_r _ _ i h D
 ·rw [c_4 _ i (by rw [a_6];omega),c_4 a i (by omega),c_4 b i (by omega)];rfl
theorem b_0 (a b:List Nat):joinN a b=joinN b a:=
 e_O (by rw [a_6,a_6,Nat.max_comm]) fun i D E=>by rw [b_q _ _ _ D,b_q _ _ _ D,Nat.max_comm]
theorem r_f {x y:Nat}:j_e x y↔j_e y x:=by unfold j_e;omega
theorem e_p (a b:List Nat):b_X a b↔b_X b a:=by
 unfold b_X;rw [Nat.max_comm b.length];exact ⟨fun h i D E=>r_f.1 (h i D E),fun h i D E=>r_f.1 (h i D E)⟩
theorem e_7 {a b:List Nat} (E:∀ x,x∈a->1<=x) (hb:∀ x,x∈b->1<=x) (h:b_X a b):b_X (joinN a b) a:=by
 intro i D H;rw [b_q _ _ _ D];rw [a_6] at H;have:=h i D (by omega);have I:=c_x E i;have J:=c_x hb i;unfold j_e at *;omega
theorem e_8 (a b:List Nat):joinN (joinN a b) a=joinN a b:=
 e_O (by rw [a_6,a_6];omega) fun i D E=>by
  rw [b_q _ _ _ D,b_q _ _ _ D];omega
/-- A shape spread to another's length: ones ahead. -/
def l_e (n:Nat) (l:List Nat):List Nat:=List.replicate (n - l.length) 1++l
theorem d_p (n:Nat) (l:List Nat) (h:l.length<=n):(l_e n l).length=n:=by simp [l_e];omega
theorem l_f (n:Nat) (l:List Nat) (h:l.length<=n) (i:Nat) (E:1<=i):a_V (l_e n l) i=a_V l i:=by
 by_cases D:i<=l.length
 ·unfold a_V;rw [d_p n l h,if_pos D,if_pos (by omega),l_e,List.getD_eq_getElem?_getD,List.getElem?_append_right (by simp;omega),List.getD_eq_getElem?_getD]
  congr 2
  simp;omega
 ·rw [c_4 l i (by omega)];unfold a_V;rw [d_p n l h]
  split
  ·rw [l_e,List.getD_eq_getElem?_getD,List.getElem?_append_left (by simp;omega)];rw [List.getElem?_replicate]
   split <;> rfl
  ·rfl
theorem k_o (m:Nat):a_e (List.replicate m 1)=1:=by
 induction m with
 | zero=>rfl
 | succ m ih=>rw [List.replicate_succ,a_e,ih]
theorem l_g (n:Nat) (l:List Nat):a_e (l_e n l)=a_e l:=by rw [l_e,a_D,k_o,Nat.one_mul]
/-- What is spread where: of each side that is 1 its only number. -/
def d_1:List Nat->List Nat->List Nat
 | d :: ds,p :: ps=>(if d=1 then 0 else p) :: d_1 ds ps
 | _,_=>[]
theorem h_s:∀ d p:List Nat,p.length=d.length->(d_1 d p).length=d.length
 | [],[],_=>rfl
 | d :: ds,p :: ps,h=>by simp [d_1,h_s ds ps (by simpa using h)]
 | [],_ :: _,h=>by simp at h
 | _ :: _,[],h=>by simp at h
theorem h_t:∀ (d p:List Nat) (k:Nat) (x y:Nat),d[k]?=some x->p[k]?=some y->(d_1 d p)[k]?=some (if x=1 then 0 else y)
 | d :: ds,p :: ps,0,x,y,hx,hy=>by
  simp at hx hy;subst hx hy;rfl
 | d :: ds,p :: ps,k+1,x,y,hx,hy=>by
  simp only [d_1,List.getElem?_cons_succ];exact h_t ds ps k x y (by simpa using hx) (by simpa using hy)
 | [],_,k,x,y,hx,_=>by simp at hx
 | _ :: _,[],k,x,y,_,hy=>by simp at hy
/-- The place of the number that is spread to the place a of big. -/
def b_R (d big:List Nat) (a:Nat):Nat:=c_v d (d_1 d ((a_T big a).drop (big.length - d.length)))
/-- The same, side by side. -/
def frN:List Nat->List Nat->Nat->Nat
 | d :: ds,b :: bs,a=>(if d=1 then 0 else a / a_e bs)*a_e ds+frN ds bs (a % a_e bs)
 | _,_,_=>0
theorem l_h:∀ (d b:List Nat) (a:Nat),d.length=b.length->c_v d (d_1 d (a_T b a))=frN d b a
 | [],[],_,_=>rfl
 | d :: ds,b :: bs,a,h=>by rw [a_T,d_1,c_v,l_h ds bs _ (by simpa using h),frN]
 | [],_ :: _,_,h=>by simp at h
 | _ :: _,[],_,h=>by simp at h
theorem h_u:∀ (m:Nat) (d p:List Nat),p.length=m+d.length->c_v (List.replicate m 1++d) (d_1 (List.replicate m 1++d) p)=c_v d (d_1 d (p.drop m))
 | 0,d,p,h=>by simp
 | m+1,d,[],h=>by simp at h;omega
 | m+1,d,p :: ps,h=>by
  rw [List.replicate_succ,List.cons_append,d_1,c_v,if_pos rfl,Nat.zero_mul,Nat.zero_add,h_u m d ps (by simp at h;omega),List.drop_succ_cons]
theorem j_f (d big:List Nat) (a:Nat) (h:d.length<=big.length):b_R d big a=frN (l_e big.length d) big a:=by
 rw [<- l_h _ _ _ (d_p _ _ h),l_e,h_u _ d _ (by rw [c_w];omega)];rfl
/-- Each side of d is 1 or big's. -/
def j_g:List Nat->List Nat->Prop
 | d :: ds,b :: bs=>(d=1∨d=b)/\j_g ds bs
 | [],[]=>True
 | _,_=>False
theorem h_v:∀ {d b:List Nat},d.length=b.length->(∀ (k:Nat) (x y:Nat),d[k]?=some x->b[k]?=some y->x=1∨x=y)->j_g d b
 | [],[],_,_=>trivial
 | d :: ds,b :: bs,hl,h=>⟨h 0 d b rfl rfl,h_v (by simpa using hl) fun k x y E D=>h (k+1) x y (by simpa using E) (by simpa using D)⟩
 | [],_ :: _,hl,_=>by simp at hl
 | _ :: _,[],hl,_=>by simp at hl
theorem n_A {d big:List Nat} (O:∀ x,x∈d->1<=x) (hb:∀ x,x∈big->1<=x) (hf:b_X d big) (I:joinN d big=big):d.length<=big.length/\j_g (l_e big.length d) big:=by
 have D:d.length<=big.length:=by
  have:=congrArg List.length I;rw [a_6] at this;omega
 refine ⟨D,h_v (d_p _ _ D) fun k x y J E=>?_⟩;have H:k < big.length:=(List.getElem?_eq_some_iff.1 E).1;rw [d_0 _ k (by rw [d_p _ _ D];exact H),d_p _ _ D,l_f _ _ D _ (by omega)] at J;rw [d_0 _ k H] at E;cases J;cases E;have M:=hf (big.length - k) (by omega) (by omega);have L:=congrArg (fun l=>a_V l (big.length - k)) I;simp only [b_q _ _ _ (show 1<=big.length - k by omega)] at L;have R:=c_x O (big.length - k);have U:=c_x hb (big.length - k);unfold j_e at M;omega
theorem o_3:∀ {d b:List Nat},j_g d b->(∀ x,x∈b->1<=x)->∀ a,a < a_e b->frN d b a < a_e d
 | [],[],_,_,a,_=>by simp [frN,a_e]
 | d :: ds,b :: bs,h,hb,a,ha=>by
  have E:=a_B (d:=bs) fun y D=>hb y (List.mem_cons_of_mem _ D);have I:=o_3 h.2 (fun y D=>hb y (List.mem_cons_of_mem _ D)) (a % a_e bs) (Nat.mod_lt _ E);have J:a / a_e bs < b:=Nat.div_lt_of_lt_mul (by rw [Nat.mul_comm];exact ha)
  have H:(if d=1 then 0 else a / a_e bs) < d:=by
   rcases h.1 with e|e
   ·rw [if_pos e];omega
   ·split <;> omega
  rw [frN,a_e];have:=Nat.mul_le_mul_right (a_e ds) (show (if d=1 then 0 else a / a_e bs)+1<=d from H);rw [Nat.add_mul] at this;omega
 | [],_ :: _,h,_,_,_=>h.elim
 | _ :: _,[],h,_,_,_=>h.elim
theorem g_x {d big:List Nat} (J:∀ x,x∈d->1<=x) (hb:∀ x,x∈big->1<=x) (hf:b_X d big) (D:joinN d big=big) (a:Nat) (E:a < a_e big):b_R d big a < a_e d:=by
 obtain ⟨H,I⟩:=n_A J hb hf D;rw [j_f d big a H,<- l_g big.length d];exact o_3 I hb a E
theorem e_9:∀ {d p:List Nat},d_Z d p->d_1 d p=p
 | [],[],_=>rfl
 | d :: ds,p :: ps,h=>by
  rw [d_1,e_9 h.2]
  congr 1
  have:=h.1
  split <;> omega
 | [],_ :: _,h=>h.elim
 | _ :: _,[],h=>h.elim
def ntl (l:List Int):List Nat:=l.map Int.toNat
def itl (l:List Nat):List Int:=l.map fun (x:Nat)=>(x:Int)
theorem a_R (l:List Int):(ntl l).length=l.length:=by simp [ntl]
theorem a_v (l:List Nat):(itl l).length=l.length:=by simp [itl]
theorem a_p (l:List Nat):ntl (itl l)=l:=by
 unfold ntl itl;rw [List.map_map];exact (List.map_congr_left fun x _=>by simp).trans (List.map_id _)
theorem l_i {l:List Int} (h:∀ x,x∈ntl l->1<=x):itl (ntl l)=l:=by
 unfold ntl itl at *;rw [List.map_map];refine (List.map_congr_left fun x D=>?_).trans (List.map_id _);have:=h x.toNat (List.mem_map.2 ⟨x,D,rfl⟩)
 show ((x.toNat:Nat):Int)=x;omega
theorem p_C {a b:List Nat} (h:itl a=itl b):a=b:=by rw [<- a_p a,h,a_p]
theorem a_r {α:Type} (l:List α) (k:Nat) (d:α) (h:k < l.length):l.getD k d=l[k]:=by
 rw [List.getD_eq_getElem?_getD,List.getElem?_eq_getElem h];rfl
theorem a_P (l:List Nat) (k:Nat):(itl l).getD k 0=((l.getD k 0:Nat):Int):=by
 rw [List.getD_eq_getElem?_getD,List.getD_eq_getElem?_getD,itl,List.getElem?_map];cases l[k]? <;> rfl
theorem d_2 (l:List Int) (k:Nat) (h:k < l.length):(ntl l).getD k 0=(l.getD k 0).toNat:=by
 rw [List.getD_eq_getElem?_getD,List.getD_eq_getElem?_getD,ntl,List.getElem?_map,List.getElem?_eq_getElem h];rfl
def f_a (d:List Nat):Nat:=if goodN d then a_e d else 0
theorem b_1 {d:List Nat} (h:goodN d):f_a d=a_e d:=if_pos h
theorem f_b {d:List Nat} (h:¬ goodN d):f_a d=0:=if_neg h
theorem goodN.pos {d:List Nat} (h:goodN d):1<=a_e d:=a_B h.2.1
theorem l_j (d:List Nat):(0 < f_a d)↔goodN d:=by
 unfold f_a
 split
 ·rename_i h;have:=h.pos;exact ⟨fun _=>h,fun _=>by omega⟩
 ·rename_i h;exact ⟨fun D=>by omega,fun D=>absurd D h⟩
/-- The product of the first k, and that they are not below 1. -/
def pK (l:List Int) (k:Nat):Int:=((a_e ((ntl l).take k):Nat):Int)
def okK (l:List Int) (k:Nat):Prop:=∀ i,i < k->1<=l.getD i 0
theorem p_D (l:List Int):pK l 0=1:=rfl
theorem n_B (l:List Int):okK l 0:=fun i h=>absurd h (Nat.not_lt_zero _)
theorem l_k (l:List Int) (k:Nat) (D:k < l.length) (h:1<=l.getD k 0):pK l (k+1)=pK l k*l.getD k 0:=by
 unfold pK;rw [b_D _ k (by rw [a_R];exact D),Int.natCast_mul]
 congr 1
 rw [<- a_r (ntl l) k 0 (by rw [a_R];exact D),d_2 l k D];omega
theorem n_C {l:List Int} {k:Nat} (h:okK l k) (E:1<=l.getD k 0):okK l (k+1):=fun i H=>by
 rcases Nat.lt_succ_iff_lt_or_eq.1 H with D|rfl
 ·exact h i D
 ·exact E
theorem p_E {l:List Int} {k:Nat} (D:k < l.length):(l.getD k 0).toNat∈ntl l:=by
 rw [a_r l k 0 D];exact List.mem_map.2 ⟨_,List.getElem_mem D,rfl⟩
theorem p_F {l:List Int} {k:Nat} (D:k < l.length) (h:l.getD k 0 < 1):¬ goodN (ntl l):=fun E=>by
 have:=E.2.1 _ (p_E D);omega
theorem p_G {l:List Int} (D:goodN (ntl l)) (k:Nat):1<=pK l k/\pK l k<=4096:=by
 have J:=d_X D.2.1 k;have I:=a_B (d:=(ntl l).take k) fun x E=>D.2.1 x (List.mem_of_mem_take E);have H:=D.2.2;unfold pK;omega
theorem l_l {l:List Int} {k:Nat} (D:k < l.length) (H:1<=l.getD k 0) (h:4096 < pK l k*l.getD k 0):¬ goodN (ntl l):=fun E=>by
 have:=p_G E (k+1);rw [l_k l k D H] at this;omega
theorem n_D {l:List Int} (I:l.length<=4) (D:okK l l.length) (h:pK l l.length<=4096):goodN (ntl l)/\pK l l.length=((a_e (ntl l):Nat):Int):=by
 have e:(ntl l).take l.length=ntl l:=List.take_of_length_le (by rw [a_R];exact Nat.le_refl _);unfold pK at *;rw [e] at h ⊢;refine ⟨⟨by rw [a_R];exact I,fun x J=>?_,by omega⟩,rfl⟩;obtain ⟨y,H,rfl⟩:=List.mem_map.1 J;obtain ⟨i,E,rfl⟩:=List.mem_iff_getElem.1 H;have:=D i E;rw [a_r l i 0 E] at this;omega
theorem n_E {l:List Int} (h:4 < l.length):¬ goodN (ntl l):=fun D=>by
 have:=D.1;rw [a_R] at this;omega
/-- The quotient that a bound is held against. -/
theorem r_g (x y:Int) (H:1<=x) (E:x<=4096) (h:y<=4096 / x) (D:1<=y):x*y<=4096/\1<=x*y:=by
 have L:x*(4096 / x)<=4096:=Int.mul_ediv_self_le (by omega);have J:x*y<=x*(4096 / x):=Int.mul_le_mul_of_nonneg_left h (by omega);have I:1*1<=x*y:=Int.mul_le_mul H D (by omega) (by omega);omega
theorem r_h (x y:Int) (H:1<=x) (D:x<=4096) (h:4096 / x < y):4096 < x*y:=by
 have E:4096 < (4096 / x+1)*x:=Int.lt_mul_of_ediv_lt (by omega) (by omega);have I:x*(4096 / x+1)<=x*y:=Int.mul_le_mul_of_nonneg_left (by omega) (by omega);rw [Int.mul_comm] at E;omega
/-- A row in the making, from its end on. -/
def k_p (L:List Int) (k:Nat):List Int:=List.replicate (L.length - k) 0++L.drop (L.length - k)
theorem e_P (L:List Int) (k:Nat):(k_p L k).length=L.length:=by
 unfold k_p;rw [List.length_append,List.length_replicate,List.length_drop];omega
theorem h_w (L:List Int):k_p L 0=List.replicate L.length 0:=by simp [k_p]
theorem h_x (L:List Int):k_p L L.length=L:=by simp [k_p]
theorem j_h (L:List Int) (j k:Nat) (h:j+k+1=L.length):(k_p L k).set j (L.getD j 0)=k_p L (k+1):=by
 unfold k_p;rw [show L.length - k=j+1 by omega,show L.length - (k+1)=j by omega,List.replicate_succ',List.append_assoc,List.set_append_right _ _ (by simp),List.length_replicate,Nat.sub_self,List.drop_eq_getElem_cons (show j < L.length by omega),a_r L j 0 (by omega)];rfl
/-- The product of the last k. -/
def sK (d:List Nat) (k:Nat):Int:=((a_e (d.drop (d.length - k)):Nat):Int)
theorem p_H (d:List Nat):sK d 0=1:=by simp [sK,a_e]
theorem l_m (d:List Nat) (j k:Nat) (h:j+k+1=d.length):sK d (k+1)=sK d k*((d.getD j 0:Nat):Int):=by
 unfold sK;rw [show d.length - k=j+1 by omega,show d.length - (k+1)=j by omega,b_7 d j (by omega),Int.natCast_mul,Int.mul_comm,a_r d j 0 (by omega)]
theorem o_4 {d:List Nat} (h:goodN d) (k:Nat):1<=sK d k/\sK d k<=4096:=by
 have I:=d_Y h.2.1 (d.length - k);have H:=a_B (d:=d.drop (d.length - k)) fun x D=>h.2.1 x (List.mem_of_mem_drop D);have E:=h.2.2;unfold sK;omega
theorem goodN.at {d:List Nat} (h:goodN d) (j:Nat) (D:j < d.length):1<=d.getD j 0/\d.getD j 0<=4096:=by
 rw [a_r d j 0 D];exact ⟨h.2.1 _ (List.getElem_mem D),h.le _ (List.getElem_mem D)⟩
def c_G (d:List Int):List Int:=if goodN (ntl d) then itl (a_x (ntl d)) else []
theorem f_8 (d:List Nat) (j k:Nat) (h:j+k+1=d.length):(itl (a_x d)).getD j 0=sK d k:=by
 rw [a_P,List.getD_eq_getElem?_getD,c_2 d j (by omega)];unfold sK;rw [show d.length - k=j+1 by omega];rfl
/-- What a walk from the first side on has reckoned. -/
def hK (d p:List Int) (k:Nat):Int:=((r_e (ntl d) (ntl p) k:Nat):Int)
/-- Do two fit, by looking. -/
def n_F (a b:List Nat):Bool:=(List.range (max a.length b.length+1)).all fun i=>decide (i=0) || decide (j_e (a_V a i) (a_V b i))
theorem c_y (a b:List Nat):n_F a b=true↔b_X a b:=by
 unfold n_F b_X;rw [List.all_eq_true];constructor
 ·intro h i J I;have:=h i (List.mem_range.2 (by omega));rw [Bool.or_eq_true,decide_eq_true_eq,decide_eq_true_eq] at this;rcases this with D|D
  ·omega
  ·exact D
 ·intro h i E;have E:=List.mem_range.1 E;rw [Bool.or_eq_true,decide_eq_true_eq,decide_eq_true_eq];by_cases H:i=0
  ·exact .inl H
  ·exact .inr (h i (by omega) (by omega))
/-- What two spread to, and the error. -/
def b_S (a b:List Int):List Int:=if goodN (ntl a)/\goodN (ntl b)/\n_F (ntl a) (ntl b)=true/\goodN (joinN (ntl a) (ntl b)) then itl (joinN (ntl a) (ntl b)) else []
def b_x (a b:List Int):Int:=if goodN (ntl a)/\goodN (ntl b) then if n_F (ntl a) (ntl b)=true then if goodN (joinN (ntl a) (ntl b)) then 0 else 2 else 4 else 1
theorem h_y {a b:List Int} (h:¬ (goodN (ntl a)/\goodN (ntl b))):b_S a b = []/\b_x a b=1:=⟨if_neg fun D=>h ⟨D.1,D.2.1⟩,if_neg h⟩
theorem i_k {a b:List Nat} (E:goodN a) (hb:goodN b) (h:¬ b_X a b):b_S (itl a) (itl b) = []/\b_x (itl a) (itl b)=4:=by
 unfold b_S b_x;rw [a_p,a_p];exact ⟨if_neg fun D=>h ((c_y a b).1 D.2.2.1),by rw [if_pos ⟨E,hb⟩,if_neg fun D=>h ((c_y a b).1 D)]⟩
theorem k_q {a b:List Nat} (E:goodN a) (hb:goodN b) (hf:b_X a b) (h:¬ goodN (joinN a b)):b_S (itl a) (itl b) = []/\b_x (itl a) (itl b)=2:=by
 unfold b_S b_x;rw [a_p,a_p];exact ⟨if_neg fun D=>h D.2.2.2,by rw [if_pos ⟨E,hb⟩,if_pos ((c_y a b).2 hf),if_neg h]⟩
theorem b_u {a b:List Nat} (D:goodN a) (hb:goodN b) (hf:b_X a b) (h:goodN (joinN a b)):b_S (itl a) (itl b)=itl (joinN a b)/\b_x (itl a) (itl b)=0:=by
 unfold b_S b_x;rw [a_p,a_p];exact ⟨if_pos ⟨D,hb,(c_y a b).2 hf,h⟩,by rw [if_pos ⟨D,hb⟩,if_pos ((c_y a b).2 hf),if_pos h]⟩
theorem l_n (d:List Nat) (k:Nat) (D:1<=k) (h:k<=d.length):(itl d).getD (d.length - k) 0=((a_V d k:Nat):Int):=by
 rw [a_P];unfold a_V;rw [if_pos h,a_r d _ 0 (by omega),a_r d _ 1 (by omega)]
theorem e_Q {d:List Nat} (h:goodN d) (k:Nat):1<=a_V d k/\a_V d k<=4096:=by
 refine ⟨c_x h.2.1 k,?_⟩;unfold a_V
 split
 ·rw [List.getD_eq_getElem?_getD];cases D:d[d.length - k]? with
  | none=>show 1<=4096;omega
  | some x=>exact h.le x (List.mem_of_getElem? D)
 ·omega
theorem p_I (a b:List Nat) (j k:Nat) (h:j+k+1=max a.length b.length):(itl (joinN a b)).getD j 0=((max (a_V a (k+1)) (a_V b (k+1)):Nat):Int):=by
 have:=l_n (joinN a b) (k+1) (by omega) (by rw [a_6];omega);rw [a_6,show max a.length b.length - (k+1)=j by omega,b_q _ _ _ (by omega)] at this;exact this
/-- The side that two sides spread to, and whether they do. -/
def jnd (x y:Int):Int:=if x=1 then y else x
def jok (x y:Int):Bool:=decide (x=1∨y=1∨x=y)
theorem p_J (x y:Nat):jok (x:Int) (y:Int)=decide (j_e x y):=by
 unfold jok j_e;exact decide_eq_decide.2 (by omega)
theorem p_K (x y:Nat) (E:1<=x) (D:1<=y) (h:j_e x y):jnd (x:Int) (y:Int)=((max x y:Nat):Int):=by
 unfold jnd j_e at *
 split <;> omega
theorem f_9 {a b:List Int} (h:b_x a b=0):goodN (ntl a)/\goodN (ntl b)/\b_X (ntl a) (ntl b)/\goodN (joinN (ntl a) (ntl b)):=by
 unfold b_x at h
 split at h
 ·rename_i D
  split at h
  ·rename_i H
   split at h
   ·rename_i E;exact ⟨D.1,D.2,(c_y _ _).1 H,E⟩
   ·omega
  ·omega
 ·omega
theorem l_o (a b:List Int):(b_S a b).length<=4:=by
 unfold b_S
 split
 ·rename_i h;rw [a_v];exact h.2.2.2.1
 ·simp
theorem g_y {d big:List Nat} (D:joinN d big=big):d.length<=big.length:=by
 have:=congrArg List.length D;rw [a_6] at this;omega
/-- The place that is spread to the place a of big. -/
def qN (d big:List Nat) (a:Nat):List Nat:=d_1 d ((a_T big a).drop (big.length - d.length))
theorem r_i (d big:List Nat) (a:Nat) (h:d.length<=big.length):(qN d big a).length=d.length:=h_s _ _ (by rw [List.length_drop,c_w];omega)
/-- A number of the spread place, by big's place. -/
theorem p_L {d big:List Nat} (h:d.length<=big.length) (a i:Nat) (E:i < d.length):(((qN d big a).getD i 0:Nat):Int)=if ((d.getD i 0:Nat):Int)=1 then 0 else (itl (a_T big a)).getD (big.length - d.length+i) 0:=by
 have J:=c_w big a;have H:d[i]?=some (d.getD i 0):=by rw [List.getElem?_eq_getElem E,a_r d i 0 E]
 have I:((a_T big a).drop (big.length - d.length))[i]?=some ((a_T big a).getD (big.length - d.length+i) 0):=by
  rw [List.getElem?_drop,List.getElem?_eq_getElem (by omega),a_r _ _ 0 (by omega)]
 rw [a_P,List.getD_eq_getElem?_getD,qN,h_t d _ i _ _ H I];simp only [Option.getD_some];by_cases D:d.getD i 0=1
 ·rw [if_pos D,if_pos (by rw [D];rfl)];rfl
 ·rw [if_neg D,if_neg (by omega)]
/-- Go's ints. -/
def RI (l:List Int):Prop:=∀ y,y∈l->-9223372036854775808<=y/\y<=9223372036854775807
theorem RI.at {l:List Int} (h:RI l) (k:Nat) (D:k < l.length):-9223372036854775808<=l.getD k 0/\l.getD k 0<=9223372036854775807:=by
 rw [a_r l k 0 D];exact h _ (List.getElem_mem D)
/-- A slice's cells, as a walk reads them. -/
def Lst (w:World) (p:Option Addr) (n:Nat) (l:List Int):Prop:=l.length=n/\∀ j,j < n->∃ q o,p=some ⟨q,o,none⟩/\w.cell? ⟨q,o+j,none⟩=some (.int .i64 (l.getD j 0))
theorem Nums.lst {w:World} {v:Value} {l:List Int} (h:Nums .i64 w v l):∃ p n c,v = .slice p n c/\Hid (Lst w p n l):=by
 obtain ⟨p,c,rfl,D⟩:=h.view;exact ⟨p,_,c,rfl,rfl,D⟩
theorem size_any (v:Value) (l:List Int) (hl:RI l) (w:World) (hv:Nums .i64 w v l):
  Calls Tryz.prog 87 #[v] w fun e w'=>e = .returned (.int .i64 ((f_a (ntl l):Nat):Int))/\w'=w:=by
 obtain ⟨p,n,c,rfl,HC⟩:=hv.lst;have HL:Hid (RI l):=hl;obtain ⟨r,er⟩:∃ r:Int,((f_a (ntl l):Nat):Int)=r:=⟨_,rfl⟩
 have HR:Hid (((f_a (ntl l):Nat):Int)=r):=er;rw [er];clear er hv hl;go_enter Tryz.func87,Tryz.ntmps87;by_cases hn:4 < n
 ·have ac:(4:Int) < (n:Int):=by omega
  go_wp2;go_ret;have:=n_E (l:=l) (by rw [HC.out.1];exact hn);rw [<- HR.out,f_b this];exact ⟨rfl,rfl⟩
 have ac:(n:Int)<=4:=by omega
 go_wp2_with fail
 go_loopg [3,11] n (fun gg u v wr=>∃ (k:Nat) (x:Int),k<=n/\gg=n - k/\u = .int .i64 x/\v = .int .i64 (k:Int)/\Hid (x=pK l k/\okK l k)/\1<=x/\x<=4096/\wr=w)
 case atStart=>exact ⟨0,1,by omega,by omega,rfl,rfl,⟨(p_D l).symm,n_B l⟩,by omega,by omega,rfl⟩
 case round=>
  obtain ⟨k,x,hk,hg,rfl,rfl,M,R,E,rfl⟩:=hrel;by_cases V:k < n
  ·have ae:(k:Int) < (n:Int):=by omega
   obtain ⟨q,o,rfl,H⟩:=HC.out.2 k V;have I:k < l.length:=by rw [HC.out.1];exact V
   have Hk:Hid (k < l.length):=I;have hy:=HL.out.at k I;obtain ⟨y,ey⟩:∃ y,l.getD k 0=y:=⟨_,rfl⟩
   have L:Hid (l.getD k 0=y):=ey;rw [ey] at H hy;obtain ⟨J,O⟩:∃ J,(4096:Int) / x=J:=⟨_,rfl⟩
   have ag:0<=J/\J<=4096:=by
    rw [<- O];exact ⟨Int.ediv_nonneg (by omega) (by omega),Int.ediv_le_self _ (by omega)⟩
   have af:Int.tdiv 4096 x=J:=by rw [Int.tdiv_eq_ediv_of_nonneg (by omega)];exact O
   clear ey I;by_cases ab:y < 1
   ·go_wp2;go_ret;rw [<- HR.out,f_b (p_F Hk.out (by rw [L.out];exact ab))];exact ⟨rfl,rfl⟩
   by_cases ad:J < y
   ·have D:¬ goodN (ntl l):=l_l Hk.out (by rw [L.out];omega) (by rw [L.out,<- M.out.1];exact r_h x y R E (by rw [O];exact ad));have U:Hid (¬ goodN (ntl l)):=D;clear D O;go_wp2;go_ret;rw [<- HR.out,f_b U.out];exact ⟨rfl,rfl⟩
   ·obtain ⟨m,em⟩:∃ m,x*y=m:=⟨_,rfl⟩
    have hm:=r_g x y R E (by rw [O];omega) (by omega);rw [em] at hm;have Hn:Hid (m=pK l (k+1)/\okK l (k+1)):=⟨by rw [l_k l k Hk.out (by rw [L.out];omega),<- M.out.1,L.out,em],n_C M.out.2 (by rw [L.out];omega)⟩
    clear O;go_wp2;go_roundg (n - (k+1))
    case measure=>omega
    case rel=>exact ⟨k+1,m,by omega,rfl,by first|rfl|simp [em],by first|rfl|simp,Hn,hm.2,hm.1,rfl⟩
  ·obtain rfl:k=n:=by omega
   go_wp2;go_ret;have aa:=HC.out.1;subst aa;have:=n_D (l:=l) (by omega) M.out.2 (by rw [<- M.out.1];exact E);rw [<- HR.out,b_1 this.1,<- this.2,<- M.out.1];exact ⟨rfl,rfl⟩
theorem b_Y (v:Value) (l:List Int) (J:RI l) (w:World) (H:Nums .i64 w v l):
  Calls Tryz.prog 85 #[v] w fun e L=>e = .returned (.bool (decide (goodN (ntl l))))/\L=w:=by
 have E:=size_any v l J w H
 have D:decide (((f_a (ntl l):Nat):Int) > 0)=decide (goodN (ntl l)):=by
  have:=l_j (ntl l);exact decide_eq_decide.2 ⟨fun h=>this.1 (by omega),fun h=>by have:=this.2 h;omega⟩
 obtain ⟨r,I⟩:∃ r:Int,((f_a (ntl l):Nat):Int)=r:=⟨_,rfl⟩
 rw [I] at E D;rw [<- D];clear I D H;go_enter Tryz.func85,Tryz.ntmps85;go_wp2_with fail
 refine E.mono ?_;rintro e M ⟨rfl,rfl⟩;go_wp2;go_ret;exact ⟨rfl,rfl⟩
theorem r_j {a b:List Int} {n k:Nat} (E:a.length=n) (hb:b.length=n) (D:k < n) (h:a.getD k 0≠b.getD k 0):¬ a=b:=fun e=>h (by rw [e])
theorem o_5 {a b:List Int} {n:Nat} (H:a.length=n) (hb:b.length=n) (h:∀ i,i < n->a.getD i 0=b.getD i 0):a=b:=
 List.ext_getElem (by omega) fun i E D=>by
  have:=h i (by omega);rw [a_r a i 0 E,a_r b i 0 D] at this;exact this
theorem f_c (u v:Value) (a b:List Int) (hm:a.length<=9223372036854775807) (w:World) (hu:Nums .i64 w u a) (hv:Nums .i64 w v b):
  Calls Tryz.prog 94 #[u,v] w fun e w'=>e = .returned (.bool (decide (a=b)))/\∃ n,w'=w.drewN n:=by
 obtain ⟨p,n,c,rfl,H⟩:=hu.lst;obtain ⟨p2,L,c2,rfl,I⟩:=hv.lst;obtain ⟨r,V⟩:∃ r:Bool,decide (a=b)=r:=⟨_,rfl⟩
 have U:Hid (decide (a=b)=r):=V;rw [V];rw [H.out.1] at hm;have ae:(n:Int)<=9223372036854775807:=by omega
 clear V hv hu;go_enter Tryz.func94,Tryz.ntmps94;by_cases hn:n=L
 ·subst hn;go_wp2_with fail
  go_loopg [13] n (fun gg v wr=>∃ (k d:Nat),k<=n/\gg=n - k/\v = .int .i64 (k:Int)/\Hid (∀ i,i < k->a.getD i 0=b.getD i 0)/\wr=w.drewN d)
  case atStart=>exact ⟨0,0,by omega,by omega,rfl,fun i hi=>by omega,rfl⟩
  case round=>
   obtain ⟨k,d,hk,hg,rfl,M,rfl⟩:=hrel;by_cases E:k < n
   ·have ad:(k:Int) < (n:Int):=by omega
    obtain ⟨q,o,rfl,ca⟩:=H.out.2 k E;obtain ⟨q2,o2,rfl,cb⟩:=I.out.2 k E;obtain ⟨x,R⟩:∃ x,a.getD k 0=x:=⟨_,rfl⟩
    obtain ⟨y,O⟩:∃ y,b.getD k 0=y:=⟨_,rfl⟩
    have J:Hid (a.getD k 0=x/\b.getD k 0=y):=⟨R,O⟩
    rw [R] at ca;rw [O] at cb;clear R O;by_cases D:x=y
    ·subst D
     have Hn:Hid (∀ i,i < k+1->a.getD i 0=b.getD i 0):=fun i hi=>by
      rcases Nat.lt_succ_iff_lt_or_eq.1 hi with h|rfl
      ·exact M.out i h
      ·rw [J.out.1,J.out.2]
     clear M;go_wp2;go_region
     all_goals
      go_wp2;go_roundg (n - (k+1))
     case measure=>omega
     case rel=>exact ⟨k+1,d+1,by omega,rfl,by first|rfl|simp,Hn,rfl⟩
    ·have ab:(x != y)=true:=by simp [D]
     go_wp2;go_region
     all_goals go_wp2
     go_ret;rw [<- U.out,decide_eq_false (r_j H.out.1 I.out.1 E (by rw [J.out.1,J.out.2];exact D))];exact ⟨rfl,d+1,rfl⟩
   ·obtain rfl:k=n:=by omega
    go_wp2;go_ret;rw [<- U.out,decide_eq_true (o_5 H.out.1 I.out.1 M.out)];exact ⟨rfl,d,rfl⟩
 ·have ac:((n:Int) != (L:Int))=true:=by simp;omega
  have aa:¬ ((n:Int)=(L:Int)):=by omega
  go_wp2;go_ret;rw [<- U.out,decide_eq_false (fun e=>hn (by rw [<- H.out.1,<- I.out.1,e]))];exact ⟨rfl,0,rfl⟩
theorem n_G (u v:Value) (a b:List Int) (L:a.length<=9223372036854775807) (w:World) (H:Nums .i64 w u a) (E:Nums .i64 w v b):
  Calls Tryz.prog 132 #[u,v] w fun e J=>e = .returned (.bool (decide (a=b)))/\∃ n,J=w.drewN n:=by
 have D:=f_c u v a b L w H E;obtain ⟨r,I⟩:∃ r:Bool,decide (a=b)=r:=⟨_,rfl⟩
 rw [I] at D ⊢;clear I E H;go_enter Tryz.func132,Tryz.ntmps132;go_wp2_with fail
 refine D.mono ?_;rintro e M ⟨rfl,d,rfl⟩;go_wp2;go_ret;exact ⟨rfl,d,rfl⟩
theorem l_p (u v:Value) (a b:List Int) (hm:a.length<=9223372036854775807) (w:World) (hu:Nums .i64 w u a) (hv:Nums .i64 w v b):
  Calls Tryz.prog 50 #[u,v] w fun e w'=>e = .returned (.bool (decide (a=b)))/\∃ n,w'=w.drewN n:=by
 obtain ⟨p,n,c,rfl,H⟩:=hu.lst;obtain ⟨p2,L,c2,rfl,I⟩:=hv.lst;obtain ⟨r,V⟩:∃ r:Bool,decide (a=b)=r:=⟨_,rfl⟩
 have U:Hid (decide (a=b)=r):=V;rw [V];rw [H.out.1] at hm;have ae:(n:Int)<=9223372036854775807:=by omega
 clear V hv hu;go_enter Tryz.func50,Tryz.ntmps50;by_cases hn:n=L
 ·subst hn;go_wp2_with fail
  go_loopg [5] n (fun gg v wr=>∃ (k d:Nat),k<=n/\gg=n - k/\v = .int .i64 (k:Int)/\Hid (∀ i,i < k->a.getD i 0=b.getD i 0)/\wr=w.drewN d)
  case atStart=>exact ⟨0,0,by omega,by omega,rfl,fun i hi=>by omega,rfl⟩
  case round=>
   obtain ⟨k,d,hk,hg,rfl,M,rfl⟩:=hrel;by_cases E:k < n
   ·have ad:(k:Int) < (n:Int):=by omega
    obtain ⟨q,o,rfl,ca⟩:=H.out.2 k E;obtain ⟨q2,o2,rfl,cb⟩:=I.out.2 k E;obtain ⟨x,R⟩:∃ x,a.getD k 0=x:=⟨_,rfl⟩
    obtain ⟨y,O⟩:∃ y,b.getD k 0=y:=⟨_,rfl⟩
    have J:Hid (a.getD k 0=x/\b.getD k 0=y):=⟨R,O⟩
    rw [R] at ca;rw [O] at cb;clear R O;by_cases D:x=y
    ·subst D
     have Hn:Hid (∀ i,i < k+1->a.getD i 0=b.getD i 0):=fun i hi=>by
      rcases Nat.lt_succ_iff_lt_or_eq.1 hi with h|rfl
      ·exact M.out i h
      ·rw [J.out.1,J.out.2]
     clear M;go_wp2;go_region
     all_goals
      go_wp2;go_roundg (n - (k+1))
     case measure=>omega
     case rel=>exact ⟨k+1,d+1,by omega,rfl,by first|rfl|simp,Hn,rfl⟩
    ·have ab:(x != y)=true:=by simp [D]
     go_wp2;go_region
     all_goals go_wp2
     go_ret;rw [<- U.out,decide_eq_false (r_j H.out.1 I.out.1 E (by rw [J.out.1,J.out.2];exact D))];exact ⟨rfl,d+1,rfl⟩
   ·obtain rfl:k=n:=by omega
    go_wp2;go_ret;rw [<- U.out,decide_eq_true (o_5 H.out.1 I.out.1 M.out)];exact ⟨rfl,d,rfl⟩
 ·have ac:((n:Int) != (L:Int))=true:=by simp;omega
  have aa:¬ ((n:Int)=(L:Int)):=by omega
  go_wp2;go_ret;rw [<- U.out,decide_eq_false (fun e=>hn (by rw [<- H.out.1,<- I.out.1,e]))];exact ⟨rfl,0,rfl⟩
theorem i_g:NumT Tryz.prog 30 3 .i64 8:=⟨Tryz.underlying30,by kernel_rfl⟩
theorem l_q (w:World) (a b:Nat):(w.drewN a).drewN b=w.drewN (a+b):=by unfold World.drewN;simp [Nat.add_assoc]
theorem Lst.up {w D:World} {p:Option Addr} {n:Nat} {l:List Int} (h:Lst w p n l) (H:Below w.heap.size w D):Lst D p n l:=
 ⟨h.1,fun j E=>by
  obtain ⟨q,o,e,I⟩:=h.2 j E;exact ⟨q,o,e,a_h H I⟩⟩
theorem Lst.block {w:World} {q o n:Nat} {l:List Int} (h:Lst w (some ⟨q,o,none⟩) n l) (D:0 < n):q < w.heap.size:=by
 obtain ⟨H,I,e,E⟩:=h.2 0 D;cases e;exact c_u E
theorem b_m {l:List Int} (h:goodN (ntl l)):∃ d,goodN d/\l=itl d:=⟨ntl l,h,(l_i h.2.1).symm⟩
theorem f_d (v:Value) (l:List Int) (hl:RI l) (w:World) (hv:Nums .i64 w v l):
  Calls Tryz.prog 160 #[v] w fun e w'=>∃ v',e = .returned v'/\OwnK .i64 3 w' w.heap.size v' (c_G l)/\Below w.heap.size w w':=by
 have cg:=b_Y v l hl w hv;obtain ⟨p,n,c,rfl,HC⟩:=hv.lst;clear hv hl;by_cases D:goodN (ntl l)
 ·rw [decide_eq_true D] at cg;have O:c_G l=itl (a_x (ntl l)):=if_pos D;rw [O];clear O;obtain ⟨d,hd,rfl⟩:=b_m D;rw [a_p];have HD:Hid (goodN d):=hd;obtain ⟨L,O⟩:∃ L,itl (a_x d)=L:=⟨_,rfl⟩
  have HL:Hid (itl (a_x d)=L):=O;have aa:L.length=n:=by rw [<- O,a_v,b_Q,<- a_v d];exact HC.out.1
  have H:Hid (L.length=n):=aa;have I:Hid (d.length=n):=by show _=_;rw [<- a_v d];exact HC.out.1
  rw [O];have hn:n<=4:=by rw [<- I.out];exact hd.1
  have am:(n:Int)<=4:=by omega
  clear D hd O aa;go_enter Tryz.func160,Tryz.ntmps160;go_wp2_with fail
  refine cg.mono ?_;rintro e E ⟨rfl,rfl⟩;clear cg;go_wp2_with (at_make;refine a_y i_g (by decide) _ rfl (.tmp 10) (.tmp 10) rfl .i64 .i64 n n n rfl rfl rfl rfl (by omega) E.heap.size E (Nat.le_refl _) (Below.refl _ _) ?_;intro w1 HO B0 B1;clear B0)
  rw [<- H.out,<- h_w L,H.out] at HO
  go_loopg [4,5] n (fun gg u v wr=>∃ (k:Nat) (x i:Int),k<=n/\gg=n - k/\u = .int .i64 x/\v = .int .i64 i/\Hid (i=(n:Int) - 1 - (k:Int))/\Hid (x=sK d k)/\Hid (OwnK .i64 3 wr E.heap.size (.slice (some ⟨E.heap.size,0,none⟩) n n) (k_p L k))/\Hid (Below E.heap.size E wr))
  case atStart=>exact ⟨0,1,(n:Int) - 1,by omega,by omega,rfl,by first|rfl|simp,by show _=_;omega,(p_H d).symm,HO,B1⟩
  case round=>
   obtain ⟨k,x,i,hk,hg,rfl,rfl,Hi,Hx,HR,hB⟩:=hrel;by_cases ak:k < n
   ·obtain ⟨j,hj⟩:∃ j,j=n - 1 - k:=⟨_,rfl⟩
    have ad:i=(j:Int):=by have:=Hi.out;omega
    subst ad;have R:j < n:=by omega
    have ae:(j:Int) < (n:Int):=by omega
    have V:Hid (j+k+1=n):=by show _=_;omega
    clear hj;obtain ⟨q,o,rfl,J⟩:=(HC.out.up hB.out).2 j R;have aj:=HC.out.block (by omega);obtain ⟨af,ai⟩:=HR.out.cell (by rw [e_P];exact H.out) j R;have hx:=o_4 HD.out k;have U:=o_4 HD.out (k+1);rw [l_m d j k (by rw [I.out];exact V.out)] at U;rw [a_P] at J;have hy:=HD.out.at j (by rw [I.out];exact R);obtain ⟨y,ey⟩:∃ y:Int,((d.getD j 0:Nat):Int)=y:=⟨_,rfl⟩
    rw [<- Hx.out] at hx U;obtain ⟨m,em⟩:∃ m,x*y=m:=⟨_,rfl⟩
    have Hm:Hid (m=sK d (k+1)):=by show _=_;rw [l_m d j k (by rw [I.out];exact V.out),<- Hx.out,ey,em]
    have ah:1<=y/\y<=4096:=by omega
    rw [ey] at J U;rw [em] at U
    have H2:Hid (OwnK .i64 3 (wr.setCell ⟨E.heap.size,j,none⟩ (.int .i64 x)) E.heap.size (.slice (some ⟨E.heap.size,0,none⟩) n n) (k_p L (k+1))):=by
     have:=HR.out.store (by rw [e_P];exact H.out) j x;rw [show x=L.getD j 0 by rw [Hx.out,<- HL.out,f_8 d j k (by rw [I.out];exact V.out)],j_h L j k (by rw [H.out];exact V.out)] at this;rw [show x=L.getD j 0 by rw [Hx.out,<- HL.out,f_8 d j k (by rw [I.out];exact V.out)]];exact this
    have ab:Hid (Below E.heap.size E (wr.setCell ⟨E.heap.size,j,none⟩ (.int .i64 x))):=hB.out.setCell (p:=⟨E.heap.size,j,none⟩) (Nat.le_refl _) _
    have ac:=a_h ab.out (show E.cell? ⟨q,o+j,none⟩=some (.int .i64 y) by
     obtain ⟨q',o',e',h'⟩:=HC.out.2 j R;cases e';rw [h',a_P,ey])
    have ag:¬ q=E.heap.size:=by omega
    clear ey hy;go_wp2;go_roundg (n - (k+1))
    case measure=>omega
    case rel=>exact ⟨k+1,m,(j:Int) - 1,by omega,rfl,by first|rfl|simp [em],by first|rfl|simp,by have:=V.out;show _=_;omega,Hm,H2,ab⟩
   ·obtain rfl:k=n:=by omega
    have an:i < 0:=by have:=Hi.out;omega
    have M:=HR.out;rw [<- H.out,h_x,H.out] at M;have HF:Hid (OwnK .i64 3 wr E.heap.size (.slice (some ⟨E.heap.size,0,none⟩) k k) L/\Below E.heap.size E wr):=⟨M,hB.out⟩
    clear M;go_wp2;exact bodyPost_ret (v:=.slice (some ⟨E.heap.size,0,none⟩) k k) (by simp [results,Tryz.results160,go_sem]) rfl ⟨_,rfl,HF.out⟩
 ·rw [decide_eq_false D] at cg;have O:c_G l = []:=if_neg D;rw [O];clear O D;go_enter Tryz.func160,Tryz.ntmps160;go_wp2_with fail
  refine cg.mono ?_;rintro e E ⟨rfl,rfl⟩;go_wp2;exact bodyPost_ret (v:=.slice none 0 0) (by simp [results,Tryz.results160,go_sem]) rfl ⟨_,rfl,OwnK.nil _ _ _ _,Below.refl _ _⟩
theorem j_i (v:Value) (d:List Nat) (J:goodN d) (k:Nat) (U:1<=k/\k<=4) (w:World) (L:Nums .i64 w v (itl d)):
  Calls Tryz.prog 159 #[v,.int .i64 (k:Int)] w fun e w'=>e = .returned (.int .i64 ((a_V d k:Nat):Int))/\w'=w:=by
 obtain ⟨p,n,c,rfl,O⟩:=L.lst;have D:d.length=n:=by rw [<- a_v d];exact O.out.1
 have hn:n<=4:=by rw [<- D];exact J.1
 have V:(n:Int)<=4:=by omega
 obtain ⟨r,I⟩:∃ r:Int,((a_V d k:Nat):Int)=r:=⟨_,rfl⟩
 by_cases ac:n < k
 ·have H:(n:Int) < (k:Int):=by omega
  rw [c_4 d k (by omega)];clear L I D J;go_enter Tryz.func159,Tryz.ntmps159;go_wp2;go_ret;exact ⟨rfl,rfl⟩
 ·have H:(k:Int)<=(n:Int):=by omega
  obtain ⟨j,R⟩:∃ j,j=n - k:=⟨_,rfl⟩
  have ab:(n:Int) - (k:Int)=(j:Int):=by omega
  have aa:(j:Int) < (n:Int):=by omega
  have M:=l_n d k U.1 (by omega);rw [D,<- R,I] at M;obtain ⟨q,o,rfl,E⟩:=O.out.2 j (by omega);rw [M] at E;rw [I];clear L I D J M R;go_enter Tryz.func159,Tryz.ntmps159;go_wp2;go_ret;exact ⟨rfl,rfl⟩
theorem k_r (x y:Int) (w:World):
  Calls Tryz.prog 158 #[.int .i64 x,.int .i64 y] w fun e M=>e = .returned (.tuple #[.int .i64 (jnd x y),.bool (jok x y)])/\M=w:=by
 by_cases D:x=1
 ·subst D;rw [show jnd 1 y=y from rfl,show jok 1 y=true by unfold jok;exact decide_eq_true (.inl rfl)];go_enter Tryz.func158,Tryz.ntmps158;go_wp2;go_ret2;exact ⟨rfl,rfl⟩
 ·rw [show jnd x y=x from if_neg D];have J:(x==1)=false:=by simp [D]
  by_cases I:y=1
  ·subst I;rw [show jok x 1=true by unfold jok;exact decide_eq_true (.inr (.inl rfl))];go_enter Tryz.func158,Tryz.ntmps158;go_wp2;go_ret2;exact ⟨rfl,rfl⟩
  ·have L:(y==1)=false:=by simp [I]
   have H:jok x y=(x==y):=by
    unfold jok;by_cases h:x=y
    ·rw [decide_eq_true (.inr (.inr h))];simp [h]
    ·rw [decide_eq_false (by rintro (E|E|E) <;> contradiction)];simp [h]
   rw [H];clear H;go_enter Tryz.func158,Tryz.ntmps158;go_wp2;go_ret2;exact ⟨rfl,rfl⟩
theorem j_j {d:List Nat} (h:∀ x,x∈d->x<=4096):RI (itl d):=by
 intro y D;obtain ⟨x,E,rfl⟩:=List.mem_map.1 D;have:=h x E;omega
theorem p_M {a b:List Nat} (D:goodN a) (hb:goodN b):RI (itl (joinN a b)):=by
 refine j_j fun x E=>?_;obtain ⟨j,_,rfl⟩:=List.mem_map.1 E;have I:=e_Q D (max a.length b.length - j);have H:=e_Q hb (max a.length b.length - j);show max _ _<=4096;omega
theorem i_l {P:Program} {w:World} (D:Array TypeId) (t:TypeId) (k E:IntKind) (x y:Nat):(Builtin.max_ D t #[.int k (x:Int),.int E (y:Int)]).run P w = .ok (.int k ((max x y:Nat):Int)) w:=by
 rw [run_max_int2]
 congr 2
 split <;> omega
theorem g_z (u v:Value) (a b:List Int) (ha:RI a) (hb:RI b) (w:World) (hu:Nums .i64 w u a) (hv:Nums .i64 w v b):
  Calls Tryz.prog 131 #[u,v] w fun e w'=>∃ v',e = .returned (.tuple #[v',.int .i64 (b_x a b)])/\OwnK .i64 3 w' w.heap.size v' (b_S a b)/\Below w.heap.size w w':=by
 have ca:=b_Y u a ha w hu;have cb:=b_Y v b hb w hv;have HU:Hid (Nums .i64 w u a):=hu;have HV:Hid (Nums .i64 w v b):=hv;obtain ⟨p,n,c,rfl,HA⟩:=hu.lst;obtain ⟨p2,n2,c2,rfl,HB⟩:=hv.lst;clear hu hv ha hb;by_cases R:goodN (ntl a)
 ·rw [decide_eq_true R] at ca;by_cases V:goodN (ntl b)
  ·rw [decide_eq_true V] at cb;obtain ⟨a,ha,rfl⟩:=b_m R;obtain ⟨b,hb,rfl⟩:=b_m V;have aa:a.length=n:=by rw [<- a_v a];exact HA.out.1
   have ab:b.length=n2:=by rw [<- a_v b];exact HB.out.1
   have ao:n<=4:=by rw [<- aa];exact ha.1
   have am:n2<=4:=by rw [<- ab];exact hb.1
   obtain ⟨m,em⟩:∃ m,max n n2=m:=⟨_,rfl⟩
   have hm:m<=4:=by omega
   have ah:(m:Int)<=4:=by omega
   have O:Hid (goodN a/\goodN b/\max a.length b.length=m):=⟨ha,hb,by rw [aa,ab];exact em⟩
   obtain ⟨L,eL⟩:∃ L,itl (joinN a b)=L:=⟨_,rfl⟩
   have HL:Hid (itl (joinN a b)=L/\L.length=m):=⟨eL,by rw [<- eL,a_v,a_6];exact O.out.2.2⟩
   obtain ⟨X,eX⟩:∃ X,b_S (itl a) (itl b)=X:=⟨_,rfl⟩
   obtain ⟨E,eE⟩:∃ E,b_x (itl a) (itl b)=E:=⟨_,rfl⟩
   have HX:Hid (b_S (itl a) (itl b)=X/\b_x (itl a) (itl b)=E):=⟨eX,eE⟩
   have Hm:Hid (max n n2=m):=em;rw [eX,eE];clear R V ha hb aa ab eL eX eE HA HB;have ac:∀ (ts:Array TypeId) (t:TypeId) (w:World),(Builtin.max_ ts t #[.int .i64 (n:Int),.int .i64 (n2:Int)]).run Tryz.prog w = .ok (.int .i64 (m:Int)) w:=fun ts t w=>by rw [i_l,em]
   clear em;go_enter Tryz.func131,Tryz.ntmps131;go_wp2_with fail
   refine ca.mono ?_;rintro e D ⟨rfl,rfl⟩;clear ca;go_wp2_with fail
   refine cb.mono ?_;rintro e D ⟨rfl,rfl⟩;clear cb;go_wp2_with (at_make;refine a_y i_g (by decide) _ rfl (.tmp 22) (.tmp 22) rfl .i64 .i64 m m m rfl rfl rfl rfl (by omega) D.heap.size D (Nat.le_refl _) (Below.refl _ _) ?_;intro w1 HO B0 B1;clear B0)
   clear ac;rw [<- HL.out.2,<- h_w L,HL.out.2] at HO
   go_loopg [7] m (fun gg v wr=>∃ (k:Nat),k<=m/\gg=m - k/\v = .int .i64 ((k:Int)+1)/\Hid (∀ i,1<=i->i<=k->j_e (a_V a i) (a_V b i))/\Hid (OwnK .i64 3 wr D.heap.size (.slice (some ⟨D.heap.size,0,none⟩) m m) (k_p L k))/\Hid (Below D.heap.size D wr))
   case atStart=>exact ⟨0,by omega,by omega,by first|rfl|simp,fun i h1 h2=>by omega,HO,B1⟩
   case round=>
    obtain ⟨k,hk,hg,rfl,Hx,HR,hB⟩:=hrel;by_cases ak:k < m
    ·have ag:(k:Int)+1<=(m:Int):=by omega
     have c1:=j_i _ a O.out.1 (k+1) ⟨by omega,by omega⟩ wr (HU.out.up hB.out);have c2:=j_i _ b O.out.2.1 (k+1) ⟨by omega,by omega⟩ wr (HV.out.up hB.out);rw [show ((k+1:Nat):Int)=(k:Int)+1 by omega] at c1 c2;have s1:=e_Q O.out.1 (k+1);have s2:=e_Q O.out.2.1 (k+1);have I:=p_J (a_V a (k+1)) (a_V b (k+1));have J:=p_K (a_V a (k+1)) (a_V b (k+1)) s1.1 s2.1;obtain ⟨x,ex⟩:∃ x:Int,((a_V a (k+1):Nat):Int)=x:=⟨_,rfl⟩
     obtain ⟨y,ey⟩:∃ y:Int,((a_V b (k+1):Nat):Int)=y:=⟨_,rfl⟩
     rw [ex] at c1 I J;rw [ey] at c2 I J;have c3:=fun W=>k_r x y W;obtain ⟨j,hj⟩:∃ j,j=m - 1 - k:=⟨_,rfl⟩
     have ad:j < m:=by omega
     have an:(m:Int) - ((k:Int)+1)=(j:Int):=by omega
     have ai:(j:Int) < (m:Int):=by omega
     have Hj:Hid (j+k+1=m):=by show _=_;omega
     clear hj ex ey s1 s2;by_cases hf:j_e (a_V a (k+1)) (a_V b (k+1))
     ·rw [decide_eq_true hf] at I;have J:=J hf;rw [I] at c3;obtain ⟨z,ez⟩:∃ z,jnd x y=z:=⟨_,rfl⟩
      rw [ez] at c3 J
      have HZ:Hid (z=L.getD j 0):=by
       show _=_;rw [J,<- HL.out.1,p_I a b j k (by rw [O.out.2.2];exact Hj.out)]
      have Hn:Hid (∀ i,1<=i->i<=k+1->j_e (a_V a i) (a_V b i)):=fun i h1 h2=>by
       rcases Nat.lt_or_ge k i with h|h
       ·rw [show i=k+1 by omega];exact hf
       ·exact Hx.out i h1 h
      obtain ⟨af,aj⟩:=HR.out.cell (by rw [e_P];exact HL.out.2) j ad
      have H2:Hid (OwnK .i64 3 (wr.setCell ⟨D.heap.size,j,none⟩ (.int .i64 z)) D.heap.size (.slice (some ⟨D.heap.size,0,none⟩) m m) (k_p L (k+1))):=by
       have:=HR.out.store (by rw [e_P];exact HL.out.2) j z;rw [HZ.out,j_h L j k (by rw [HL.out.2];exact Hj.out)] at this;rw [HZ.out];exact this
      have ae:Hid (Below D.heap.size D (wr.setCell ⟨D.heap.size,j,none⟩ (.int .i64 z))):=hB.out.setCell (p:=⟨D.heap.size,j,none⟩) (Nat.le_refl _) _;clear hf I J ez Hx;go_wp2_with fail
      refine c1.mono ?_;rintro e w5 ⟨rfl,rfl⟩;go_wp2_with fail
      refine c2.mono ?_;rintro e w5 ⟨rfl,rfl⟩;go_wp2_with fail
      refine (c3 _).mono ?_;rintro e w5 ⟨rfl,rfl⟩;go_wp2;go_roundg (m - (k+1))
      case measure=>omega
      case rel=>exact ⟨k+1,by omega,rfl,by first|rfl|simp,Hn,H2,ae⟩
     ·rw [decide_eq_false hf] at I;rw [I] at c3;have hX:=i_k O.out.1 O.out.2.1 (fun h=>hf (h (k+1) (by omega) (by rw [O.out.2.2];omega)));rw [HX.out.1,HX.out.2] at hX;obtain ⟨rfl,rfl⟩:=hX;clear hf I J Hx;go_wp2_with fail
      refine c1.mono ?_;rintro e w5 ⟨rfl,rfl⟩;go_wp2_with fail
      refine c2.mono ?_;rintro e w5 ⟨rfl,rfl⟩;go_wp2_with fail
      refine (c3 _).mono ?_;rintro e w5 ⟨rfl,rfl⟩;go_wp2;go_ret2;exact ⟨_,rfl,OwnK.nil _ _ _ _,hB.out⟩
    ·obtain rfl:k=m:=by omega
     have M:=HR.out;rw [<- HL.out.2,h_x,HL.out.2] at M;have HF:Hid (OwnK .i64 3 wr D.heap.size (.slice (some ⟨D.heap.size,0,none⟩) k k) L/\Below D.heap.size D wr):=⟨M,hB.out⟩
     have H:b_X a b:=fun i h1 h2=>Hx.out i h1 (by rw [O.out.2.2] at h2;exact h2);have cg:=b_Y _ L (by rw [<- HL.out.1];exact p_M O.out.1 O.out.2.1) wr M.nums;rw [<- HL.out.1,a_p] at cg;by_cases U:goodN (joinN a b)
     ·rw [decide_eq_true U] at cg;have hX:=b_u O.out.1 O.out.2.1 H U;rw [HX.out.1,HX.out.2,HL.out.1] at hX;obtain ⟨rfl,rfl⟩:=hX;clear M H U Hx;go_wp2_with fail
      refine cg.mono ?_;rintro e w5 ⟨rfl,rfl⟩;go_wp2;go_ret2;exact ⟨_,rfl,HF.out⟩
     ·rw [decide_eq_false U] at cg;have hX:=k_q O.out.1 O.out.2.1 H U;rw [HX.out.1,HX.out.2] at hX;obtain ⟨rfl,rfl⟩:=hX;clear M H U Hx;go_wp2_with fail
      refine cg.mono ?_;rintro e w5 ⟨rfl,rfl⟩;go_wp2;go_ret2;exact ⟨_,rfl,OwnK.nil _ _ _ _,HF.out.2⟩
  ·rw [decide_eq_false V] at cb;obtain ⟨e1,e2⟩:=h_y (a:=a) (b:=b) fun h=>V h.2;rw [e1,e2];clear e1 e2 R V;go_enter Tryz.func131,Tryz.ntmps131;go_wp2_with fail
   refine ca.mono ?_;rintro e D ⟨rfl,rfl⟩;go_wp2_with fail
   refine cb.mono ?_;rintro e D ⟨rfl,rfl⟩;go_wp2;go_ret2;exact ⟨_,rfl,OwnK.nil _ _ _ _,Below.refl _ _⟩
 ·rw [decide_eq_false R] at ca;obtain ⟨e1,e2⟩:=h_y (a:=a) (b:=b) fun h=>R h.1;rw [e1,e2];clear e1 e2 R;go_enter Tryz.func131,Tryz.ntmps131;go_wp2_with fail
  refine ca.mono ?_;rintro e D ⟨rfl,rfl⟩;go_wp2;go_ret2;exact ⟨_,rfl,OwnK.nil _ _ _ _,Below.refl _ _⟩
theorem a_m {w D:World} {B:Nat} (h:Below B w D) (n:Nat):Below B w (D.drewN n):=h.trans ⟨rfl,rfl,rfl,Nat.le_refl _,fun _ _=>rfl⟩
theorem a_b (W:World) (o:Obj):Below W.heap.size W (W.alloc o):=(Below.refl _ _).alloc (Nat.le_refl _) _
theorem a_c {w D E:World} (h:Below w.heap.size w D) (H:Below D.heap.size D E):Below w.heap.size w E:=h.trans (H.mono h.size)
theorem g_a {w D:World} (h:Below w.heap.size w D) (o:Obj):Below w.heap.size w (D.alloc o):=h.trans ((a_b D o).mono h.size)
theorem z0:((f_a (ntl []):Nat):Int)=1:=by decide +kernel
theorem g0:decide (goodN (ntl []))=true:=by decide +kernel
theorem f_e {k:IntKind} {e:TypeId} (W:World) (o:Obj) (l:List Int) (n:Nat) (D:Nat×Nat) (h:l.length=n):Nums k ((W.alloc o).alloc (.cells (b_e k l).toArray e D)) (.slice (some ⟨W.heap.size+1,0,none⟩) n n) l:=by
 have:=a_5 (k:=k) (e:=e) (W.alloc o) l n D h;rw [show (W.alloc o).heap.size=W.heap.size+1 from Array.size_push _] at this;exact this
/-- An order names each of n places once. -/
def d_J (n:Nat) (o:List Nat):Prop:=o.length=n/\(∀ x,x∈o->x < n)/\∀ j,j < n->∃ k,k < n/\o.getD k 0=j
/-- The sides in that order. -/
def b_8 (d o:List Nat):List Nat:=o.map fun j=>d.getD j 0
theorem b_E (d o:List Nat):(b_8 d o).length=o.length:=by simp [b_8]
theorem f_f (d o:List Nat) (k:Nat) (h:k < o.length):(b_8 d o).getD k 0=d.getD (o.getD k 0) 0:=by
 rw [a_r _ k 0 (by rw [b_E];exact h),a_r o k 0 h];simp [b_8]
def p_N (o p:List Nat) (n:Nat):Nat->List Nat
 | 0=>List.replicate n 0
 | k+1=>(p_N o p n k).set (o.getD k 0) (p.getD k 0)
theorem g_A (o p:List Nat) (n:Nat):∀ k,(p_N o p n k).length=n
 | 0=>by simp [p_N]
 | k+1=>by rw [p_N,List.length_set,g_A o p n k]
theorem g_B (l:List Nat) (j i x:Nat) (h:i < l.length):(l.set j x).getD i 0=if j=i then x else l.getD i 0:=by
 rw [List.getD_eq_getElem?_getD,List.getElem?_set,List.getD_eq_getElem?_getD];by_cases e:j=i
 ·subst e;rw [if_pos rfl,if_pos rfl,if_pos h];rfl
 ·rw [if_neg e,if_neg e]
theorem f_g {n:Nat} {o:List Nat} (h:d_J n o):∀ i k,i < n->k < n->o.getD i 0=o.getD k 0->i=k:=by
 -- as many names as places: none is named twice
 have ae:∀ (m:Nat) (f:Nat->Nat),(∀ j,j < m->∃ k,k < m/\f k=j)->(∀ k,k < m->f k < m)->∀ i k,i < m->k < m->f i=f k->i=k:=by
  intro m
  induction m with
  | zero=>intro f _ _ i k hi;omega
  | succ m ih=>
   intro f R hb i k hi M e
   -- the place that is named m is changed with the last one
   obtain ⟨t,ht,ft⟩:=R m (by omega)
   let g:Nat->Nat:=fun x=>if x=t then f m else f x
   have aj:∀ x,x < m->g x < m∨(g x=m/\False)∨g x=m:=by
    intro x O;by_cases E:x=t
    ·have:g x=f m:=if_pos E;have:=hb m (by omega);omega
    ·have:g x=f x:=if_neg E;have:=hb x (by omega);omega
   by_cases hu:∃ x,x < m+1/\x≠t/\f x=m
   ·-- m is named twice: then one below m is not named at all
    exfalso;obtain ⟨x,O,E,fx⟩:=hu
    -- strike x: g' over the others still reaches all
    let s:Nat->Nat:=fun y=>if y < x then f y else f (y+1)
    have:∀ j,j < m->∃ k,k < m/\s k=j:=by
     intro j hj;obtain ⟨k,M,U⟩:=R j (by omega)
     have ah:k≠x:=by
      intro e;subst e;omega
     by_cases H:k < x
     ·exact ⟨k,by omega,by show (if k < x then f k else f (k+1))=j;rw [if_pos H];exact U⟩
     ·exact ⟨k - 1,by omega,by show (if k - 1 < x then f (k - 1) else f (k - 1+1))=j;rw [if_neg (by omega),show k - 1+1=k by omega];exact U⟩
    -- t is left among them and is named m: so m numbers are reached by m - 1 places
    have ab:∀ (m:Nat) (s:Nat->Nat),(∀ j,j < m->∃ k,k < m/\s k=j)->∀ y,y < m->s y < m:=by
     intro m
     induction m with
     | zero=>intro s _ y hy;omega
     | succ m ih=>
      intro s R y hy;rcases Nat.lt_or_ge (s y) (m+1) with h|h
      ·exact h
      ·exfalso;obtain ⟨t,ht,st⟩:=R m (by omega);have ai:t≠y:=by intro e;subst e;omega
       -- strike t: the others reach all below m;y is among them
       have L:=ih (fun z=>if z < t then s z else s (z+1)) (by
        intro j hj;obtain ⟨k,M,sk⟩:=R j (by omega);have D:k≠t:=by intro e;subst e;omega
        by_cases H:k < t
        ·exact ⟨k,by omega,by show (if k < t then s k else s (k+1))=j;rw [if_pos H];exact sk⟩
        ·exact ⟨k - 1,by omega,by show (if k - 1 < t then s (k - 1) else s (k - 1+1))=j;rw [if_neg (by omega),show k - 1+1=k by omega];exact sk⟩)
       by_cases H:y < t
       ·have:=L y (by omega);rw [if_pos H] at this;omega
       ·have:=L (y - 1) (by omega);rw [if_neg (by omega),show y - 1+1=y by omega] at this;omega
    have h3:=ab m s this;by_cases H:t < x
    ·have:=h3 t (by omega);have e2:s t=f t:=if_pos H;omega
    ·have:=h3 (t - 1) (by omega);have e2:s (t - 1)=f (t - 1+1):=if_neg (by omega);rw [show t - 1+1=t by omega] at e2;omega
   ·have I:∀ x,x < m+1->x≠t->f x < m:=fun x O E=>by
     have h1:=hb x O;have L:f x≠m:=fun e=>hu ⟨x,O,E,e⟩;omega
    have ac:∀ j,j < m->∃ k,k < m/\g k=j:=by
     intro j hj;obtain ⟨k,M,U⟩:=R j (by omega);have D:k≠t:=by intro e;subst e;omega
     by_cases ag:k=m
     ·subst ag;exact ⟨t,by omega,by show (if t=t then f k else f t)=j;rw [if_pos rfl];exact U⟩
     ·exact ⟨k,by omega,by show (if k=t then f m else f k)=j;rw [if_neg D];exact U⟩
    have ad:∀ k,k < m->g k < m:=by
     intro k M;show (if k=t then f m else f k) < m;by_cases D:k=t
     ·rw [if_pos D];subst D;exact I m (by omega) (by omega)
     ·rw [if_neg D];exact I k (by omega) D
    have af:=ih g ac ad
    -- back to f
    have V:∀ x,x < m+1->x≠t->∃ y,y < m/\g y=f x/\(y=if x=m then t else x):=by
     intro x O E;by_cases aa:x=m
     ·subst aa;exact ⟨t,by omega,by show (if t=t then f x else f t)=f x;rw [if_pos rfl],by rw [if_pos rfl]⟩
     ·exact ⟨x,by omega,by show (if x=t then f m else f x)=f x;rw [if_neg E],by rw [if_neg aa]⟩
    by_cases J:i=t
    ·by_cases D:k=t
     ·rw [J,D]
     ·have:=I k M D;rw [J,ft] at e;omega
    ·by_cases D:k=t
     ·have:=I i hi J;rw [D,ft] at e;omega
     ·obtain ⟨y,hy,gy,ey⟩:=V i hi J;obtain ⟨z,hz,gz,ez⟩:=V k M D;have:=af y z hy hz (by rw [gy,gz];exact e);subst this;rw [ey] at ez;by_cases h1:i=m
      ·by_cases L:k=m
       ·omega
       ·rw [if_pos h1,if_neg L] at ez;omega
      ·by_cases L:k=m
       ·rw [if_neg h1,if_pos L] at ez;omega
       ·rw [if_neg h1,if_neg L] at ez;exact ez
 intro i k hi M e
 exact ae n (fun x=>o.getD x 0) h.2.2 (fun x O=>by
  show o.getD x 0 < n;rw [a_r o x 0 (by rw [h.1];exact O)];exact h.2.1 _ (List.getElem_mem _)) i k hi M e
/-- As many places, none named twice: each is named. -/
theorem g_C:∀ (m:Nat) (f:Nat->Nat),(∀ k,k < m->f k < m)->(∀ i k,i < m->k < m->f i=f k->i=k)->∀ j,j < m->∃ k,k < m/\f k=j:=by
 intro m
 induction m with
 | zero=>intro f _ _ j hj;omega
 | succ m ih=>
  intro f hb H j hj
  have hm:∃ k,k < m+1/\f k=m:=by
   rcases Nat.lt_or_ge (f m) m with V|V
   ·-- else the first m would be named by the first m alone
    by_cases I:∃ k,k < m+1/\f k=m
    ·exact I
    ·exfalso
     obtain ⟨k,J,e⟩:=ih f (fun k J=>by
      have U:=hb k (by omega);have R:f k≠m:=fun e=>I ⟨k,by omega,e⟩;omega) (fun i k M L e=>H i k (by omega) (by omega) e) (f m) V
     have:=H k m (by omega) (by omega) e;omega
   ·exact ⟨m,by omega,by have:=hb m (by omega);omega⟩
  obtain ⟨t,O,ft⟩:=hm;by_cases aa:j=m
  ·exact ⟨t,O,by omega⟩
  ·have hg:=ih (fun k=>if k=t then f m else f k) (fun k J=>by
    show (if k=t then f m else f k) < m;by_cases D:k=t
    ·rw [if_pos D];have U:=hb m (by omega)
     have R:f m≠m:=fun e=>by
      have:=H m t (by omega) O (by omega);omega
     omega
    ·rw [if_neg D];have U:=hb k (by omega);have R:f k≠m:=fun e=>D (H k t (by omega) O (by omega));omega) (fun i k M L e=>by
    have e:(if i=t then f m else f i)=(if k=t then f m else f k):=e;by_cases E:i=t
    ·by_cases D:k=t
     ·omega
     ·rw [if_pos E,if_neg D] at e;have:=H m k (by omega) (by omega) e;omega
    ·by_cases D:k=t
     ·rw [if_neg E,if_pos D] at e;have:=H i m (by omega) (by omega) e;omega
     ·rw [if_neg E,if_neg D] at e;exact H i k (by omega) (by omega) e) j (by omega)
   obtain ⟨k,J,e⟩:=hg;have e:(if k=t then f m else f k)=j:=e;by_cases D:k=t
   ·rw [if_pos D] at e;exact ⟨m,by omega,e⟩
   ·rw [if_neg D] at e;exact ⟨k,by omega,e⟩
theorem n_H {n:Nat} {o:List Nat} (H:o.length=n) (hb:∀ k,k < n->o.getD k 0 < n) (E:∀ i k,i < n->k < n->o.getD i 0=o.getD k 0->i=k):d_J n o:=by
 refine ⟨H,fun x I=>?_,g_C n (fun k=>o.getD k 0) hb E⟩;obtain ⟨k,D,rfl⟩:=List.mem_iff_getElem.1 I;have:=hb k (by omega);rw [a_r o k 0 D] at this;exact this
theorem l_r {n:Nat} {o:List Nat} (h:d_J n o) (p:List Nat):∀ k,k<=n->∀ i,i < k->(p_N o p n k).getD (o.getD i 0) 0=p.getD i 0
 | 0,_,i,hi=>by omega
 | k+1,hk,i,hi=>by
  have D:∀ x,x < n->o.getD x 0 < n:=fun x E=>by
   rw [a_r o x 0 (by rw [h.1];exact E)];exact h.2.1 _ (List.getElem_mem _)
  rw [p_N,g_B _ _ _ _ (by rw [g_A];exact D i (by omega))];by_cases e:o.getD k 0=o.getD i 0
  ·rw [if_pos e,f_g h k i (by omega) (by omega) e]
  ·rw [if_neg e]
   exact l_r h p k (by omega) i (by
    have:i≠k:=fun H=>e (by rw [H]);omega)
def unp (o p:List Nat) (n:Nat):List Nat:=p_N o p n n
theorem l_s (o p:List Nat) (n:Nat):(unp o p n).length=n:=g_A o p n n
theorem o_6 {n:Nat} {o:List Nat} (h:d_J n o) (p:List Nat) (i:Nat) (D:i < n):(unp o p n).getD (o.getD i 0) 0=p.getD i 0:=l_r h p n (Nat.le_refl _) i D
theorem k_s {d o p:List Nat} (h:d_J d.length o) (J:d_Z (b_8 d o) p):d_Z d (unp o p d.length):=by
 refine h_p (l_s _ _ _) fun j x y L M=>?_;have O:j < d.length:=(List.getElem?_eq_some_iff.1 L).1;obtain ⟨k,D,e⟩:=h.2.2 j O;have I:=o_6 h p k D;rw [e,List.getD_eq_getElem?_getD,M] at I;have H:=f_f d o k (by rw [h.1];exact D);rw [e,List.getD_eq_getElem?_getD (l:=d),L] at H;have E:p.length=o.length:=by rw [f_5 J,b_E]
 have R:=f_6 J k ((b_8 d o).getD k 0) (p.getD k 0) (by rw [List.getElem?_eq_getElem (by rw [b_E,h.1];exact D),a_r _ k 0 (by rw [b_E,h.1];exact D)]) (by rw [List.getElem?_eq_getElem (by rw [E,h.1];exact D),a_r _ k 0 (by rw [E,h.1];exact D)]);have I:y=p.getD k 0:=I;have H:(b_8 d o).getD k 0=x:=H;omega
/-- The product of m numbers, place by place. -/
def c_H (f:Nat->Nat):Nat->Nat
 | 0=>1
 | m+1=>c_H f m*f m
theorem b_9 {f g:Nat->Nat}:∀ m,(∀ k,k < m->f k=g k)->c_H f m=c_H g m
 | 0,_=>rfl
 | m+1,h=>by rw [c_H,c_H,b_9 m fun k D=>h k (by omega),h m (by omega)]
theorem h_z (f:Nat->Nat) (t x:Nat):∀ m,t < m->c_H f m*x=c_H (fun k=>if k=t then x else f k) m*f t
 | 0,h=>by omega
 | m+1,h=>by
  rw [c_H,c_H];by_cases e:t=m
  ·subst e;rw [if_pos rfl,b_9 (g:=fun k=>if k=t then x else f k) t fun k D=>by rw [if_neg (by omega)]];rw [Nat.mul_assoc,Nat.mul_assoc,Nat.mul_comm (f t)]
  ·rw [if_neg (by omega),Nat.mul_assoc,Nat.mul_comm (f m),<- Nat.mul_assoc,h_z f t x m (by omega),Nat.mul_assoc,Nat.mul_assoc,Nat.mul_comm (f t)]
theorem k_t (d:Nat->Nat):∀ (m:Nat) (f:Nat->Nat),(∀ k,k < m->f k < m)->(∀ i k,i < m->k < m->f i=f k->i=k)->c_H (fun k=>d (f k)) m=c_H d m:=by
 intro m
 induction m with
 | zero=>intro f _ _;rfl
 | succ m ih=>
  intro f hb I;obtain ⟨t,ht,R⟩:=g_C (m+1) f hb I m (by omega)
  have E:∀ k,k < m+1->k≠t->f k < m:=fun k J D=>by
   have V:=hb k J;have U:f k≠m:=fun e=>D (I k t J ht (by omega));omega
  by_cases M:t=m
  ·subst M;rw [c_H,c_H,R,ih f (fun k J=>E k (by omega) (by omega)) fun i k O L e=>I i k (by omega) (by omega) e]
  ·have V:=h_z (fun k=>d (f k)) t (d (f m)) m (by omega);rw [c_H,c_H,V];show c_H (fun k=>if k=t then d (f m) else d (f k)) m*d (f t)=c_H d m*d m;rw [R]
   congr 1
   have U:=ih (fun k=>if k=t then f m else f k) (fun k J=>by
    show (if k=t then f m else f k) < m;by_cases D:k=t
    ·rw [if_pos D];exact E m (by omega) (by omega)
    ·rw [if_neg D];exact E k (by omega) D) (fun i k O L e=>by
    have e:(if i=t then f m else f i)=(if k=t then f m else f k):=e;by_cases H:i=t
    ·by_cases D:k=t
     ·omega
     ·rw [if_pos H,if_neg D] at e;have:=I m k (by omega) (by omega) e;omega
    ·by_cases D:k=t
     ·rw [if_neg H,if_pos D] at e;have:=I i m (by omega) (by omega) e;omega
     ·rw [if_neg H,if_neg D] at e;exact I i k (by omega) (by omega) e)
   rw [<- U]
   exact b_9 m fun k J=>by
    by_cases D:k=t
    ·rw [if_pos D,if_pos D]
    ·rw [if_neg D,if_neg D]
theorem l_t:∀ (m:Nat) (d:List Nat),d.length=m->a_e d=c_H (fun k=>d.getD k 0) m:=by
 intro m
 induction m with
 | zero=>
  intro d h;have:d = []:=List.eq_nil_of_length_eq_zero h;subst this;rfl
 | succ m ih=>
  intro d h
  have e:d=d.take m++[d.getD m 0]:=by
   have E:=List.take_succ_eq_append_getElem (l:=d) (i:=m) (by omega);have I:d.take (m+1)=d:=List.take_of_length_le (by omega);rw [I] at E;rw [a_r d m 0 (by omega)];exact E
  have J:a_e d=a_e (d.take m)*d.getD m 0:=by
   have D:=congrArg a_e e;rw [a_D] at D;rw [D];simp [a_e]
  rw [J,c_H,ih (d.take m) (by simp;omega)]
  congr 1
  refine b_9 m fun k H=>?_;rw [List.getD_eq_getElem?_getD,List.getElem?_take_of_lt H,List.getD_eq_getElem?_getD]
/-- The sides in another order come to as many numbers. -/
theorem d_q {d o:List Nat} (h:d_J d.length o):a_e (b_8 d o)=a_e d:=by
 have D:∀ x,x < d.length->o.getD x 0 < d.length:=fun x H=>by
  rw [a_r o x 0 (by rw [h.1];exact H)];exact h.2.1 _ (List.getElem_mem _)
 rw [l_t d.length (b_8 d o) (by rw [b_E,h.1]),l_t d.length d rfl,<- k_t (fun k=>d.getD k 0) d.length (fun k=>o.getD k 0) D (f_g h)];exact b_9 _ fun k E=>f_f d o k (by rw [h.1];exact E)
theorem f_h {d o:List Nat} (D:goodN d) (h:d_J d.length o):goodN (b_8 d o):=by
 refine ⟨by rw [b_E,h.1];exact D.1,fun x H=>?_,by rw [d_q h];exact D.2.2⟩;obtain ⟨j,E,rfl⟩:=List.mem_map.1 H;have:=h.2.1 j E;exact (D.at j this).1
/-- Where the turned tensor's i-th number stood. -/
def f_i (d o:List Nat) (i:Nat):Nat:=c_v d (unp o (a_T (b_8 d o) i) d.length)
theorem n_I {d o:List Nat} (E:goodN d) (h:d_J d.length o) (i:Nat) (D:i < a_e d):f_i d o i < a_e d:=
 l_d (k_s h (c_j _ i (f_h E h).2.1 (by rw [d_q h];exact D)))
/-- A fold: each number is added where it is spread from, in order. -/
def c_5 (add:Int->Int->Int) (f:Nat->Nat) (v:Nat->Int) (S:Nat):Nat->List Int
 | 0=>List.replicate S 0
 | k+1=>(c_5 add f v S k).set (f k) (add ((c_5 add f v S k).getD (f k) 0) (v k))
theorem f_j (D:Int->Int->Int) (f:Nat->Nat) (v:Nat->Int) (S:Nat):∀ k,(c_5 D f v S k).length=S
 | 0=>by simp [c_5]
 | k+1=>by rw [c_5,List.length_set,f_j D f v S k]
theorem l_u {d:List Nat} (E:goodN d) (i:Nat) (D:i < a_e d):b_R d d i=i:=by
 unfold b_R;rw [Nat.sub_self,List.drop_zero,e_9 (c_j d i E.2.1 D),d_o d i E.2.1 D]
theorem h_A (d:List Nat):b_X d d/\joinN d d=d:=by
 constructor
 ·intro i _ _;exact .inl rfl
 ·refine e_O (by rw [a_6,Nat.max_self]) fun i D _=>?_;rw [b_q _ _ _ D,Nat.max_self]
theorem g_D {α:Type} (l:List α) (k:Nat) (d:α) (h:l.length<=k):l.getD k d=d:=by
 rw [List.getD_eq_getElem?_getD,List.getElem?_eq_none h];rfl
theorem k_u {α:Type} (a b:List α) (k:Nat) (d:α) (h:k < a.length):(a++b).getD k d=a.getD k d:=by
 rw [List.getD_eq_getElem?_getD,List.getElem?_append_left h,List.getD_eq_getElem?_getD]
theorem k_v {α:Type} (a b:List α) (k:Nat) (d:α) (h:a.length<=k):(a++b).getD k d=b.getD (k - a.length) d:=by
 rw [List.getD_eq_getElem?_getD,List.getElem?_append_right h,List.getD_eq_getElem?_getD]
theorem a_I {α:Type} (f:Nat->α) (n k:Nat) (d:α) (h:k < n):((List.range n).map f).getD k d=f k:=by
 rw [List.getD_eq_getElem?_getD,List.getElem?_map,List.getElem?_range h];rfl
/-- A row in the making, from its beginning on. -/
def b_I (L:List Int) (k:Nat):List Int:=L.take k++List.replicate (L.length - k) 0
theorem a_A (L:List Int) (k:Nat):(b_I L k).length=L.length:=by
 unfold b_I;rw [List.length_append,List.length_take,List.length_replicate];omega
theorem a_1 (L:List Int):b_I L 0=List.replicate L.length 0:=by simp [b_I]
theorem b_g (L:List Int):b_I L L.length=L:=by simp [b_I]
theorem b_r (L:List Int) (k:Nat) (h:k < L.length):(b_I L k).set k (L.getD k 0)=b_I L (k+1):=by
 unfold b_I;refine List.ext_getElem (by simp;omega) fun i H E=>?_;rw [List.getElem_set];by_cases e:k=i
 ·subst e;rw [if_pos rfl,List.getElem_append_left (by simp;omega),List.getElem_take,a_r L k 0 h]
 ·rw [if_neg e];by_cases D:i < k
  ·rw [List.getElem_append_left (by simp;omega),List.getElem_append_left (by simp;omega),List.getElem_take,List.getElem_take]
  ·rw [List.getElem_append_right (by simp;omega),List.getElem_append_right (by simp;omega),List.getElem_replicate,List.getElem_replicate]
/-- The row behind k sides. -/
def h_l (d s:List Nat):Nat->List Nat
 | 0=>[0]
 | k+1=>(h_l d s k).flatMap fun a=>(List.range (d.getD k 0)).map fun n=>a+n*s.getD k 0
theorem g_E (m:Nat) (g:Nat->Nat->Nat):∀ l:List Nat,(l.flatMap fun a=>(List.range m).map (g a)).length=l.length*m
 | []=>by simp
 | a :: l=>by rw [List.flatMap_cons,List.length_append,g_E m g l];simp [Nat.add_mul,Nat.add_comm]
theorem j_k (m:Nat) (E:0 < m) (g:Nat->Nat->Nat):∀ (l:List Nat) (i:Nat),i < l.length*m->(l.flatMap fun a=>(List.range m).map (g a)).getD i 0=g (l.getD (i / m) 0) (i % m)
 | [],i,h=>by simp at h
 | a :: l,i,h=>by
  rw [List.flatMap_cons];by_cases D:i < m
  ·rw [k_u _ _ _ _ (by simp;exact D),a_I _ _ _ _ D,Nat.div_eq_of_lt D,Nat.mod_eq_of_lt D];rfl
  ·rw [k_v _ _ _ _ (by simp;omega)];have I:((List.range m).map (g a)).length=m:=by simp
   rw [I,j_k m E g l (i - m) (by rw [List.length_cons,Nat.add_mul] at h;omega)]
   have H:i / m=(i - m) / m+1:=by
    rw [Nat.div_eq_sub_div E (by omega)]
   have J:i % m=(i - m) % m:=Nat.mod_eq_sub_mod (by omega);rw [H,J];rfl
theorem e_R (d s:List Nat):∀ k,k<=d.length->(h_l d s k).length=a_e (d.take k)
 | 0,_=>by simp [h_l,a_e]
 | k+1,h=>by
  rw [h_l,g_E,e_R d s k (by omega),b_D d k (by omega),a_r d k 0 (by omega)]
theorem l_v {d s:List Nat} (H:∀ x,x∈d->1<=x) (a:Nat) (E:a < a_e d):∀ k,k<=d.length->(h_l d s k).getD (a / a_e (d.drop k)) 0=h_k (a_T d a) s k
 | 0,_=>by
  rw [List.drop_zero,Nat.div_eq_of_lt E];rfl
 | k+1,h=>by
  have O:0 < a_e (d.drop (k+1)):=a_B fun x U=>H x (List.mem_of_mem_drop U)
  have R:0 < d.getD k 0:=by
   rw [a_r d k 0 (by omega)];exact H _ (List.getElem_mem _)
  have J:a / a_e (d.drop (k+1)) < a_e (d.take (k+1)):=by
   refine (Nat.div_lt_iff_lt_mul O).2 ?_;rw [<- a_D,List.take_append_drop];exact E
  have D:=e_R d s k (by omega);rw [h_l,j_k _ R _ _ _ (by rw [D,a_r d k 0 (by omega),<- b_D d k (by omega)];exact J)];have L:=n_z d a k (by omega);have M:=f_7 d a k H E (by omega)
  have I:(a_T d a).getD k 0=a / a_e (d.drop (k+1)) % d.getD k 0:=by
   rw [List.getD_eq_getElem?_getD,M,a_r d k 0 (by omega)];rfl
  rw [h_k,<- l_v H a E k (by omega),I];rw [a_r d k 0 (by omega)];rw [L]
/-- The whole row. -/
def f_k (d s:List Nat):List Nat:=h_l d s d.length
theorem h_B (d s:List Nat):(f_k d s).length=a_e d:=by
 unfold f_k;rw [e_R d s _ (Nat.le_refl _),List.take_of_length_le (Nat.le_refl _)]
theorem j_l {d s:List Nat} (E:∀ x,x∈d->1<=x) (a:Nat) (D:a < a_e d):(f_k d s).getD a 0=h_k (a_T d a) s d.length:=by
 have:=l_v (s:=s) E a D d.length (Nat.le_refl _);rw [List.drop_of_length_le (Nat.le_refl _)] at this;simp only [a_e,Nat.div_one] at this;exact this
theorem g_b (p s q t:List Nat) (m:Nat) (D:∀ j,j < m->p.getD j 0*s.getD j 0=0):∀ n,(∀ j,j < n->p.getD (m+j) 0*s.getD (m+j) 0=q.getD j 0*t.getD j 0)->h_k p s (m+n)=h_k q t n
 | 0,_=>by
  rw [Nat.add_zero]
  have:∀ k,k<=m->h_k p s k=0:=by
   intro k
   induction k with
   | zero=>intro _;rfl
   | succ k ih=>intro h;rw [h_k,ih (by omega),D k (by omega)]
  exact this m (Nat.le_refl _)
 | n+1,h=>by
  rw [<- Nat.add_assoc,h_k,h_k,g_b p s q t m D n fun j E=>h j (by omega),h n (by omega)]
/-- The steps of a shape that is spread, after k of its sides. -/
def b_Z (d:List Nat) (n:Nat):Nat->List Nat
 | 0=>List.replicate n 0
 | k+1=>if 1 < d.getD k 0 then (b_Z d n k).set (n - d.length+k) ((a_x d).getD k 0) else b_Z d n k
theorem c_a (d:List Nat) (n:Nat):∀ k,(b_Z d n k).length=n
 | 0=>by simp [b_Z]
 | k+1=>by
  rw [b_Z]
  split
  ·rw [List.length_set,c_a d n k]
  ·exact c_a d n k
theorem d_M (d:List Nat) (n:Nat) (h:d.length<=n) (j:Nat) (D:j < n - d.length):∀ k,(b_Z d n k).getD j 0=0
 | 0=>by
  rw [b_Z,a_r _ _ _ (by simp;omega)];simp
 | k+1=>by
  rw [b_Z]
  split
  ·rw [g_B _ _ _ _ (by rw [c_a];omega),if_neg (by omega)];exact d_M d n h j D k
  ·exact d_M d n h j D k
theorem g_F (d:List Nat) (n:Nat) (h:d.length<=n) (i:Nat) (I:i < d.length):∀ k,k<=d.length->(b_Z d n k).getD (n - d.length+i) 0=if i < k/\1 < d.getD i 0 then (a_x d).getD i 0 else 0
 | 0,_=>by
  rw [b_Z,a_r _ _ _ (by simp;omega),if_neg (by omega)];simp
 | k+1,hk=>by
  rw [b_Z]
  split
  ·rename_i H
   rw [g_B _ _ _ _ (by rw [c_a];omega)];by_cases e:k=i
   ·subst e;rw [if_pos rfl,if_pos ⟨by omega,H⟩]
   ·rw [if_neg (by omega),g_F d n h i I k (by omega)];by_cases E:i < k
    ·by_cases D:1 < d.getD i 0
     ·rw [if_pos ⟨E,D⟩,if_pos ⟨by omega,D⟩]
     ·rw [if_neg (fun h=>D h.2),if_neg (fun h=>D h.2)]
    ·rw [if_neg (fun h=>E h.1),if_neg (fun h=>by omega)]
  ·rename_i H
   rw [g_F d n h i I k (by omega)];by_cases D:1 < d.getD i 0
   ·by_cases E:i < k
    ·rw [if_pos ⟨E,D⟩,if_pos ⟨by omega,D⟩]
    ·rw [if_neg (fun h=>E h.1),if_neg (fun h=>by
      have:i=k:=by omega
      subst this;exact H D)]
   ·rw [if_neg (fun h=>D h.2),if_neg (fun h=>D h.2)]
def j_m (d:List Nat) (n:Nat):List Nat:=b_Z d n d.length
theorem e_q {d:List Nat} (h:goodN d) (k:Nat):(a_x d).getD k 0<=4096:=by
 rcases Nat.lt_or_ge k d.length with D|D
 ·rw [List.getD_eq_getElem?_getD,c_2 d k D];exact Nat.le_trans (d_Y h.2.1 (k+1)) h.2.2
 ·rw [g_D _ _ _ (by rw [b_Q];exact D)];omega
theorem g_G {d:List Nat} (D:goodN d) (n:Nat):∀ k x,x∈b_Z d n k->x<=4096
 | 0,x,hx=>by
  have:=List.eq_of_mem_replicate hx;omega
 | k+1,x,hx=>by
  rw [b_Z] at hx
  split at hx
  ·rcases List.mem_or_eq_of_mem_set hx with h|h
   ·exact g_G D n k x h
   ·rw [h];exact e_q D k
  ·exact g_G D n k x hx
/-- Which number is spread to each place, in order. -/
def b_T (d big:List Nat):List Nat:=f_k big (j_m d big.length)
theorem f_l {d big:List Nat} (M:goodN d) (hb:goodN big) (hf:b_X d big) (D:joinN d big=big) (a:Nat) (L:a < a_e big):(b_T d big).getD a 0=b_R d big a:=by
 have E:=g_y D;unfold b_T;rw [j_l hb.2.1 a L]
 have e:=g_b (a_T big a) (j_m d big.length) (qN d big a) (a_x d) (big.length - d.length) (fun j D=>by unfold j_m;rw [d_M d _ E j D,Nat.mul_zero]) d.length (fun j D=>by
  unfold j_m;rw [g_F d _ E j D _ (Nat.le_refl _)];have H:=p_L (big:=big) E a j D;have I:=M.at j D;rw [a_P] at H;by_cases J:1 < d.getD j 0
  ·rw [if_pos ⟨D,J⟩];rw [if_neg (by omega)] at H;have:(qN d big a).getD j 0=(a_T big a).getD (big.length - d.length+j) 0:=by omega
   rw [this]
  ·rw [if_neg (fun h=>J h.2),Nat.mul_zero];rw [if_pos (by omega)] at H;have:(qN d big a).getD j 0=0:=by omega
   rw [this,Nat.zero_mul])
 rw [show big.length - d.length+d.length=big.length by omega] at e;rw [e,c_3 d _ (r_i d big a E)];rfl
theorem d_N (d big:List Nat):(b_T d big).length=a_e big:=h_B _ _
/-- The sum of m numbers, place by place. -/
def g_H (f:Nat->Nat):Nat->Nat
 | 0=>0
 | m+1=>g_H f m+f m
theorem d_r {f g:Nat->Nat}:∀ m,(∀ k,k < m->f k=g k)->g_H f m=g_H g m
 | 0,_=>rfl
 | m+1,h=>by rw [g_H,g_H,d_r m fun k D=>h k (by omega),h m (by omega)]
theorem j_n (f:Nat->Nat) (t x:Nat):∀ m,t < m->g_H f m+x=g_H (fun k=>if k=t then x else f k) m+f t
 | 0,h=>by omega
 | m+1,h=>by
  rw [g_H,g_H];by_cases e:t=m
  ·subst e;rw [if_pos rfl,d_r (g:=fun k=>if k=t then x else f k) t fun k D=>by rw [if_neg (by omega)]];omega
  ·rw [if_neg (by omega)];have:=j_n f t x m (by omega);omega
theorem l_w (d:Nat->Nat):∀ (m:Nat) (f:Nat->Nat),(∀ k,k < m->f k < m)->(∀ i k,i < m->k < m->f i=f k->i=k)->g_H (fun k=>d (f k)) m=g_H d m:=by
 intro m
 induction m with
 | zero=>intro f _ _;rfl
 | succ m ih=>
  intro f hb I;obtain ⟨t,ht,R⟩:=g_C (m+1) f hb I m (by omega)
  have E:∀ k,k < m+1->k≠t->f k < m:=fun k J D=>by
   have V:=hb k J;have U:f k≠m:=fun e=>D (I k t J ht (by omega));omega
  by_cases M:t=m
  ·subst M;rw [g_H,g_H,R,ih f (fun k J=>E k (by omega) (by omega)) fun i k O L e=>I i k (by omega) (by omega) e]
  ·have V:=j_n (fun k=>d (f k)) t (d (f m)) m (by omega);rw [g_H,g_H,V];show g_H (fun k=>if k=t then d (f m) else d (f k)) m+d (f t)=g_H d m+d m;rw [R]
   congr 1
   have U:=ih (fun k=>if k=t then f m else f k) (fun k J=>by
    show (if k=t then f m else f k) < m;by_cases D:k=t
    ·rw [if_pos D];exact E m (by omega) (by omega)
    ·rw [if_neg D];exact E k (by omega) D) (fun i k O L e=>by
    have e:(if i=t then f m else f i)=(if k=t then f m else f k):=e;by_cases H:i=t
    ·by_cases D:k=t
     ·omega
     ·rw [if_pos H,if_neg D] at e;have:=I m k (by omega) (by omega) e;omega
    ·by_cases D:k=t
     ·rw [if_neg H,if_pos D] at e;have:=I i m (by omega) (by omega) e;omega
     ·rw [if_neg H,if_neg D] at e;exact I i k (by omega) (by omega) e)
   rw [<- U]
   exact d_r m fun k J=>by
    by_cases D:k=t
    ·rw [if_pos D,if_pos D]
    ·rw [if_neg D,if_neg D]
theorem g_I (p s:List Nat):∀ m,h_k p s m=g_H (fun k=>p.getD k 0*s.getD k 0) m
 | 0=>rfl
 | m+1=>by rw [h_k,g_H,g_I p s m]
/-- The steps along the turned sides. -/
def f_V (d o:List Nat):List Nat:=o.map fun j=>(a_x d).getD j 0
theorem f_m (d o:List Nat):(f_V d o).length=o.length:=by simp [f_V]
theorem h_C (d o:List Nat) (k:Nat) (h:k < o.length):(f_V d o).getD k 0=(a_x d).getD (o.getD k 0) 0:=by
 rw [a_r _ k 0 (by rw [f_m];exact h),a_r o k 0 h];simp [f_V]
theorem n_J {d:List Nat} (E:goodN d) (o:List Nat):∀ x,x∈f_V d o->x<=4096:=by
 intro x D;obtain ⟨j,_,rfl⟩:=List.mem_map.1 D;exact e_q E j
theorem l_x {d o:List Nat} (M:goodN d) (h:d_J d.length o) (a:Nat) (I:a < a_e d):(f_k (b_8 d o) (f_V d o)).getD a 0=f_i d o a:=by
 have H:=f_h M h;have J:(b_8 d o).length=d.length:=by rw [b_E,h.1]
 rw [j_l H.2.1 a (by rw [d_q h];exact I),J];unfold f_i;rw [<- c_3 d (unp o (a_T (b_8 d o) a) d.length) (l_s _ _ _),g_I,g_I]
 have D:∀ x,x < d.length->o.getD x 0 < d.length:=fun x L=>by
  rw [a_r o x 0 (by rw [h.1];exact L)];exact h.2.1 _ (List.getElem_mem _)
 rw [<- l_w (fun k=>(unp o (a_T (b_8 d o) a) d.length).getD k 0*(a_x d).getD k 0) d.length (fun k=>o.getD k 0) D (f_g h)]
 exact d_r _ fun k E=>by
  show _=(unp o (a_T (b_8 d o) a) d.length).getD (o.getD k 0) 0*(a_x d).getD (o.getD k 0) 0;rw [o_6 h _ k E,h_C d o k (by rw [h.1];exact E)]
end Go.Proofs.YtjlofobnmjompaaGreatDoor.Wd
