/- A region that draws its order: its opera -/
import Derived.Below
import Derived.Test.YtjlofobnmjompaaGreatDoorP00
import Derived.Laws.Bits64b
import Derived.Laws.BitsLemmas
import Derived.Deep.AppendLies
import Derived.Shelf.Small.Bits
import Derived.Shelf.Strconv.Itoa0
import Derived.Shelf.Bits.Mul64
set_option linter.unusedVariables false
set_option linter.unusedSimpArgs false
set_option maxHeartbeats 16000000
set_option maxRecDepth 16000
namespace Go.Proofs.YtjlofobnmjompaaGreatDoor.Wd
open Go.RowKit
/-- A world that keeps all that stood in w0. -/
theorem sA_ {α:Type} (l:List α) (i:Nat) (a:α):l.toArray.setIfInBounds i a=(l.set i a).toArray:=by simp
theorem sB_ {α:Type} (x y:α) (l:List α):(x :: l).set 0 y=y :: l:=rfl
theorem sC_ {α:Type} (x y:α) (i:Nat) (l:List α):(x :: l).set (i+1) y=x :: l.set i y:=rfl
def e_L (w0 d:World):World:={ d with heap:=w0.heap++d.heap.extract w0.heap.size d.heap.size,os:=w0.os,tape:=w0.tape,output:=w0.output }
theorem a_X (D d:World):Below D.heap.size D (e_L D d):=
 ⟨rfl,rfl,rfl,by unfold e_L;simp,fun k E=>by unfold e_L;simp [Array.getElem?_append,E]⟩
theorem d_s {E W:World} (h:Below E.heap.size E W):∃ d,W=e_L E d:=by
 refine ⟨W,?_⟩;obtain ⟨D,tape,H,os,output⟩:=W;obtain ⟨J,I,M,R,L⟩:=h;simp only at J I M R L;subst J I M;unfold e_L
 congr 1
 refine Array.ext_getElem? fun i=>?_;rw [Array.getElem?_append]
 split
 ·rename_i O
  exact L i O
 ·rename_i O
  rw [Array.getElem?_extract];show _=if i - E.heap.size < min D.size D.size - E.heap.size then D[E.heap.size+(i - E.heap.size)]? else none;rw [Nat.min_self];by_cases c:i < D.size
  ·rw [if_pos (by omega),show E.heap.size+(i - E.heap.size)=i by omega]
  ·rw [if_neg (by omega)];exact Array.getElem?_eq_none (by omega)
/-- A family of worlds on top of w, which holds with each world all that keep what stood in it. -/
structure Fam (w:World) (F:World->World):Prop where
 below:∀ d,Below w.heap.size w (F d)
 on:∀ d W,Below (F d).heap.size (F d) W->∃ d',W=F d'
theorem d_O {w W:World} (h:Below w.heap.size w W):Fam w (e_L W):=
 ⟨fun d=>h.trans ((a_X W d).mono h.size),fun d W' hb=>d_s ((a_X W d).trans (hb.mono (a_X W d).size))⟩
theorem Fam.cell {w:World} {F:World->World} (h:Fam w F) (d:World) (b o:Nat) (hb:b < w.heap.size):(F d).cell? ⟨b,o,none⟩=w.cell? ⟨b,o,none⟩:=(h.below d).cell (p:=⟨b,o,none⟩) hb
theorem Fam.frozen {w:World} {F:World->World} (h:Fam w F) (d:World) (b o:Nat) (hb:b < w.heap.size):(F d).frozen? ⟨b,o,none⟩=w.frozen? ⟨b,o,none⟩:=(h.below d).frozen (p:=⟨b,o,none⟩) hb
theorem Fam.call {w:World} {F:World->World} (hF:Fam w F) {P:Program} {f:FuncId} {args:Array Value} {d:World} {v:Value}
  (h:Calls P f args (F d) fun e E=>e = .returned v/\Below (F d).heap.size (F d) E):Calls P f args (F d) fun e D=>e = .returned v/\∃ d',D=F d':=
 h.mono fun _ _ ⟨he,hb⟩=>⟨he,hF.on d _ hb⟩
theorem Fam.same {w:World} {F:World->World} (hF:Fam w F) {P:Program} {f:FuncId} {args:Array Value} {d:World} {v:Value}
  (h:Calls P f args (F d) fun e E=>e = .returned v/\E=F d):Calls P f args (F d) fun e D=>e = .returned v/\∃ d',D=F d':=
 h.mono fun _ _ ⟨he,hb⟩=>⟨he,d,hb⟩
section
variable {P : Program} {ops : Array Oper} {Q : Exit -> Act -> World -> Prop}
theorem a_7 {a:Act} {dst:Option Tmp} {v:Value} {t:Nat} (h:dst≠some t):(a.put dst v).tmps[t]?=a.tmps[t]?:=by
 cases dst with
 | none=>rfl
 | some d=>exact Array.getElem?_setIfInBounds_ne (fun e=>h (by rw [e]))
theorem b_F {a:Act} {t:Nat} {v:Value} (h:t < a.tmps.size):(a.put (some t) v).tmps[t]?=some v:=by
 simp [Act.put,h]
theorem a_J (a:Act) (dst:Option Tmp) (v:Value):(a.put dst v).tmps.size=a.tmps.size:=by cases dst <;> simp [Act.put]
theorem b_s (a:Act) (dst:Option Tmp) (v:Value):(a.put dst v).defers=a.defers:=by cases dst <;> simp [Act.put]
theorem c_I:(∀ (a:Act) (v:Value),a.put none v=a)/\(∀ (a:Act) (t:Tmp) (v:Value),a.put (some t) v=⟨a.tmps.setIfInBounds t v,a.defers⟩)/\(∀ (l:List Value) (i:Nat) (x:Value),l.toArray.setIfInBounds i x=(l.set i x).toArray)/\(∀ (x y:Value) (l:List Value),(y :: l).set 0 x=x :: l)/\(∀ (x y:Value) (l:List Value) (i:Nat),(y :: l).set (i+1) x=y :: l.set i x):=
 ⟨fun _ _=>rfl,fun _ _ _=>rfl,fun _ _ _=>List.setIfInBounds_toArray ..,fun _ _ _=>rfl,fun _ _ _ _=>rfl⟩
theorem a_N {p q:Prop} (a:p) (b:q):Hid (p/\q):=⟨a,b⟩
theorem c_b {o:Oper} (H:∀ D b,o.op≠.select D b) {a A:Act} (h:∀ t,t∈o.looksAt ops->A.tmps[t]?=a.tmps[t]?):execOp A.eval o=execOp a.eval o:=
 execOp_congr o H fun x E=>by
  cases x with
  | tmp t=>
   have:=h t (List.mem_append_left _ (List.mem_filterMap.2 ⟨.tmp t,by simpa using E,rfl⟩));simp only [Act.eval,Array.getD_eq_getD_getElem?,this]
  | const v=>rfl
  | global g=>rfl
  | func f=>rfl
theorem b_y {o:Oper} {a A:Act} (h:∀ t,t∈o.looksAt ops->A.tmps[t]?=a.tmps[t]?):Region.wanted o (yielded ops A.tmps)=Region.wanted o (yielded ops a.tmps):=by
 unfold Region.wanted;cases D:o.guard with
 | none=>rfl
 | some gw=>
  obtain ⟨g,b⟩:=gw
  have:yielded ops A.tmps g=yielded ops a.tmps g:=by
   unfold yielded;cases E:(ops[g]?).bind (·.dst) with
   | none=>rfl
   | some d=>
    have:=h d (List.mem_append_right _ (by simp [D,E]));simp only [Option.bind_some,this]
  simp only [this]
def r_k (l:List Oper):List Tmp:=l.filterMap (·.dst)
theorem c_6 {C:World->Prop} {A:Act}:∀ (l:List Oper) (a:Act),wpQuiet P ops C (fun D=>D=A) l a->
  A.tmps.size=a.tmps.size/\A.defers=a.defers/\∀ t,t∉r_k l->A.tmps[t]?=a.tmps[t]?
 | [],a,h=>by
  obtain rfl:a=A:=h;exact ⟨rfl,rfl,fun _ _=>rfl⟩
 | o :: l,a,h=>by
  obtain ⟨v,L⟩:∃ v,wpQuiet P ops C (fun D=>D=A) l (a.put o.dst v):=by
   rw [wpQuiet] at h
   split at h
   ·obtain ⟨v,_,h⟩:=h;exact ⟨v,h⟩
   ·exact ⟨_,h⟩
  obtain ⟨J,I,M⟩:=c_6 l _ L;refine ⟨by rw [J,a_J],by rw [I,b_s],fun t H=>?_⟩
  rw [M t (fun R=>H (by
   obtain ⟨x,O,E⟩:=List.mem_filterMap.1 R;exact List.mem_filterMap.2 ⟨x,List.mem_cons_of_mem _ O,E⟩)),a_7 (fun E=>H (List.mem_filterMap.2 ⟨o,List.mem_cons_self,E⟩))]
def c_7 (ops:Array Oper) (n:Nat):List Oper->Bool
 | []=>true
 | o :: l=>(match o.dst with|some t=>decide (t < n) && !(r_k l).contains t|none=>true) && ((r_k (o :: l)).all fun t=>!(o.looksAt ops).contains t) && c_7 ops n l
theorem f_n {C:World->Prop} {A:Act} (n:Nat):∀ (l:List Oper) (a:Act),a.tmps.size=n->(∀ o,o∈l->∀ cs b,o.op≠.select cs b)->c_7 ops n l=true->
  wpQuiet P ops C (fun R=>R=A) l a->∀ o,o∈l->
  (Region.wanted o (yielded ops A.tmps)=true/\∃ v,(∀ t,o.dst=some t->A.tmps[t]?=some v)/\∀ W,C W->o.quietAt P A C W v) ∨
  (Region.wanted o (yielded ops A.tmps)=false/\∀ t,o.dst=some t->A.tmps[t]?=some undef)
 | [],_,_,_,_,_,o,L=>by cases L
 | o :: l,a,hn,hs,M,h,x,I=>by
  have U:=c_6 (o :: l) a h;rw [c_7,Bool.and_eq_true,Bool.and_eq_true] at M;obtain ⟨⟨O,H⟩,M⟩:=M
  have E:∀ t,t∈o.looksAt ops->A.tmps[t]?=a.tmps[t]?:=fun t V=>U.2.2 t (fun hm=>by
   have:=List.all_eq_true.1 H t hm;simp at this;exact this V)
  have he:=c_b (ops:=ops) (hs o List.mem_cons_self) E;have hw:=b_y E
  have D:∀ v,wpQuiet P ops C (fun R=>R=A) l (a.put o.dst v)->∀ t,o.dst=some t->A.tmps[t]?=some v:=by
   intro v J t V;rw [V] at O J;simp at O;rw [(c_6 l _ J).2.2 t O.2,b_F (by rw [hn];exact O.1)]
  rw [wpQuiet] at h;by_cases c:Region.wanted o (yielded ops a.tmps)=true
  ·rw [if_pos c] at h;obtain ⟨v,hq,J⟩:=h;rcases List.mem_cons.1 I with rfl|I
   ·left
    refine ⟨hw.trans c,v,D v J,fun W hW=>?_⟩;have:=hq W hW;unfold Oper.quietAt at *;rw [he];exact this
   ·exact f_n n l _ (by rw [a_J];exact hn) (fun o L=>hs o (List.mem_cons_of_mem _ L)) M J x I
  ·rw [if_neg c] at h;rcases List.mem_cons.1 I with rfl|I
   ·right
    exact ⟨hw.trans (by simpa using c),D _ h⟩
   ·exact f_n n l _ (by rw [a_J];exact hn) (fun o L=>hs o (List.mem_cons_of_mem _ L)) M h x I
/-- What an operation yields in the last frame A, whatever world on top of w it comes up in. -/
def r_l (P:Program) (ops:Array Oper) (w:World) (A:Act) (o:Oper):Prop:=
 (Region.wanted o (yielded ops A.tmps)=true/\∀ W,Below w.heap.size w W->∃ v,(∀ t,o.dst=some t->A.tmps[t]?=some v)/\o.quietAt P A (fun W'=>Below W.heap.size W W') W v) ∨
 (Region.wanted o (yielded ops A.tmps)=false/\∀ t,o.dst=some t->A.tmps[t]?=some undef)
theorem h_D {o:Oper} {a:Act} {C E:World->Prop} {W:World} {v:Value} (h:∀ W',C W'->E W') (D:o.quietAt P a C W v):o.quietAt P a E W v:=by
 unfold Oper.quietAt at *;generalize (execOp a.eval o).run P W=r at *;cases r with
 | halt x w'=>exact D
 | ok n w'=>
  cases n <;> simp only [Oper.quietUpon] at D ⊢
  case value u=>exact D
  case skip=>exact D
  case enter f args=>exact ⟨D.1,D.2.mono fun e H ⟨he,I⟩=>⟨he,h _ I⟩⟩
theorem j_o {w:World} {A a:Act} {l:List Oper} {n:Nat} (I:a.tmps.size=n) (V:∀ o,o∈l->∀ H b,o.op≠.select H b) (R:c_7 ops n l=true)
  (U:∀ F,Fam w F->wpQuiet P ops (fun W=>∃ d,W=F d) (fun J=>J=A) l a) (o:Oper) (O:o∈l):r_l P ops w A o:=by
 have D:=fun W (E:Below w.heap.size w W)=>f_n n l a I V R (U _ (d_O E)) o O;by_cases c:Region.wanted o (yielded ops A.tmps)=true
 ·left
  refine ⟨c,fun W E=>?_⟩;rcases D W E with ⟨_,v,M,L⟩|⟨h,_⟩
  ·exact ⟨v,M,h_D (fun W' ⟨d,hd⟩=>by rw [hd];exact a_X W d) (L W (d_s (Below.refl _ _)))⟩
  ·rw [h] at c;cases c
 ·right
  rcases D w (Below.refl _ _) with ⟨h,_⟩|h
  ·exact absurd h c
  ·exact h
/-- The operation waits for the one with that number. -/
def a_4 (o:Oper) (j:Nat):Bool:=o.after.any fun e=>Region.binds .any e && e.on==j
theorem a_q {o:Oper} {j:Nat} {D:Array Bool} (h:a_4 o j=true) (E:∀ e∈o.after,Region.binds .any e=true->D.getD e.on false=true):D.getD j false=true:=by
 obtain ⟨e,he,hb⟩:=Array.any_eq_true'.1 h;simp only [Bool.and_eq_true,beq_iff_eq] at hb;rw [<- hb.2];exact E e he hb.1
/-- The shape: operation number m comes behind all ahead of it, and each behind it waits for those from m on; among the first m each looks only at slots of such as it waits for, none at the one that makes the block (number al), and no two write one slot; whoever is waited for stands ahead. -/
def h_E (ops:Array Oper) (al m:Nat):Bool:=
 decide (m<=ops.size) && Region.noSelect ops &&
 ((List.range ops.size).all fun i=>match ops[i]? with
  | none=>false
  | some o=>(o.after.all fun e=>!Region.binds .any e || decide (e.on < i)) && (List.range i).all fun j=>decide (j < m) || a_4 o j) &&
 (decide (ops.size<=m) || (List.range m).all fun j=>(List.range (m+1)).any fun k=>decide (j < k) && match ops[k]? with
  | none=>false
  | some o=>a_4 o j) &&
 ((List.range m).all fun i=>match ops[i]? with
  | none=>false
  | some o=>(List.range m).all fun j=>match (ops[j]?).bind (·.dst) with
   | none=>true
   | some t=>(!(o.looksAt ops).contains t || (a_4 o j && j != al)) && (i==j || o.dst != some t))
theorem b_n {D:Array Bool} {j:Nat} (h:D.getD j true=false):j < D.size/\D.getD j false=false:=by
 by_cases c:j < D.size
 ·refine ⟨c,?_⟩;simp [c] at h ⊢;exact h
 ·simp [c] at h
theorem d_3 {D:Array Bool} {j:Nat} (E:j < D.size) (h:¬ D.getD j true=false):D.getD j false=true:=by
 simp [E] at h ⊢;exact h
theorem a_2 {D:Array Bool} {i n:Nat} (H:D.getD i true=false) (h:D.toList.count false=n+1):(D.setIfInBounds i true).toList.count false=n:=by
 obtain ⟨E,J⟩:=b_n H;have I:i < D.toList.length:=by simpa using E
 rw [Array.toList_setIfInBounds,List.count_set I,h];have:D.toList[i]=false:=by simpa [E] using J
 simp [this]
theorem d_t {D:Array Bool} {n:Nat} (h:D.toList.count false=n+1):∃ i,D.getD i true=false:=by
 have I:false∈D.toList:=List.count_pos_iff.1 (by omega);obtain ⟨i,H,e⟩:=List.getElem_of_mem I;refine ⟨i,?_⟩;have E:i < D.size:=by simpa using H
 simp only [Array.getElem_toList] at e;simp [E,e]
theorem b_t {D:Array Bool} (h:D.toList.count false=0) (j:Nat):¬ D.getD j true=false:=by
 intro E;obtain ⟨I,H⟩:=b_n E;refine List.count_eq_zero.1 h ?_;have:D[j]=false:=by simpa [I] using H
 rw [<- this];simp
/-- Whoever is the first not yet come up is ready. -/
theorem c_J {D:Array Bool} (M:D.size=ops.size) (hb:∀ i o,ops[i]?=some o->∀ e∈o.after,Region.binds .any e=true->e.on < i):
  ∀ i,D.getD i true=false->Region.ready .any ops D≠[]:=by
 intro i
 induction i using Nat.strongRecOn with
 | _ i ih=>
  intro L J;obtain ⟨R,O⟩:=b_n L;have I:ops[i]?=some ops[i]:=Array.getElem?_eq_getElem (by omega)
  have:i∈Region.ready .any ops D:=mem_ready.2 ⟨L,_,I,fun e he E=>by
   have H:=hb i _ I e he E;by_cases c:D.getD e.on true=false
   ·exact absurd J (ih _ H c)
   ·exact d_3 (by omega) c⟩
  rw [J] at this;cases this
theorem g_J (hb:∀ i o,ops[i]?=some o->∀ e∈o.after,Region.binds .any e=true->e.on < i) {m:Nat} (hT:∀ i o,ops[i]?=some o->∀ j,m<=j->j < i->a_4 o j=true):
  ∀ (fuel k:Nat) (D:Array Bool) (s:Act) (W:World),D.size=ops.size->m<=k->D.toList.count false=fuel->(∀ j,j < k->D.getD j false=true)->(∀ j,k<=j->j < ops.size->D.getD j true=false)->
   wpList P ops Q (ops.toList.drop k) s W->wpAny P .any ops Q fuel D s W:=by
 intro fuel
 induction fuel with
 | zero=>
  intro k D s W H L O V I h
  have ac:ops.size<=k:=by
   rcases Nat.lt_or_ge k ops.size with c|c
   ·exact absurd (I k (Nat.le_refl _) c) (b_t O k)
   ·exact c
  rw [List.drop_eq_nil_of_le (by simpa using ac)] at h;refine ⟨?_,h⟩;refine List.eq_nil_iff_forall_not_mem.2 fun i R=>?_;exact b_t O i (mem_ready.1 R).1
 | succ fuel ih=>
  intro k D s W H L O V I h
  have E:k < ops.size:=by
   obtain ⟨i,R⟩:=d_t O;obtain ⟨h3,M⟩:=b_n R;rcases Nat.lt_or_ge i k with c|c
   ·rw [V i c] at M;cases M
   ·omega
  refine ⟨fun hr=>absurd hr (c_J H hb k (I k (Nat.le_refl _) E)),fun i R=>?_⟩;obtain ⟨J,o,ho,U⟩:=mem_ready.1 R;obtain ⟨h3,M⟩:=b_n J
  have ad:k<=i:=by
   rcases Nat.lt_or_ge i k with c|c
   ·rw [V i c] at M;cases M
   ·exact c
  obtain rfl:i=k:=by
   rcases Nat.lt_or_ge k i with c|c
   ·have:=a_q (hT i o ho k L c) U;have h5:=(b_n (I k (Nat.le_refl _) E)).2;rw [this] at h5;cases h5
   ·omega
  rw [List.drop_eq_getElem_cons (by simpa using E)] at h
  have ab:ops.toList[i]'(by simpa using E)=o:=by
   have:=Array.getElem?_eq_some_iff.1 ho;simpa using this.2
  rw [ab,wpList] at h;unfold wpOp;simp only [ho]
  have go:∀ a w,wpList P ops Q (ops.toList.drop (i+1)) a w->wpAny P .any ops Q fuel (D.setIfInBounds i true) a w:=fun a w hw=>
   ih (i+1) _ a w (by simpa using H) (by omega) (a_2 J O) (fun j hj=>by
    by_cases c:j=i
    ·subst c;simp [H,E]
    ·exact getD_set_true (V j (by omega))) (fun j hj aa=>by rw [getD_set_ne true (by omega)];exact I j (by omega) aa) hw
  split
  ·rename_i c
   rw [if_pos c] at h;rcases h with h|h
   ·exact .inl (Oper.wp_mono go h)
   ·exact .inr h
  ·rename_i c
   rw [if_neg c] at h;exact go _ _ h
/-- The block that was made: it stands, new, as it was laid. -/
def Made (w:World) (obj:Obj) (b:Nat) (W:World):Prop:=b < W.heap.size/\w.heap.size<=b/\W.heap[b]?=some obj
theorem Made.up {w W W':World} {obj:Obj} {b:Nat} (h:Made w obj b W) (hb:Below W.heap.size W W'):Made w obj b W':=
 ⟨Nat.lt_of_lt_of_le h.1 hb.size,h.2.1,(hb.block b h.1).trans h.2.2⟩
def d_H (b:Nat):Value:=.pointer (some ⟨b,0,none⟩)
structure Inv (ops:Array Oper) (w:World) (al m:Nat) (obj:Obj) (dst:Option Tmp) (A:Act) (listed:Array Bool) (s:Act) (W:World) (b:Nat):Prop where
 size:listed.size=ops.size
 head:∀ j,m<=j->j < ops.size->listed.getD j true=false
 fsize:s.tmps.size=A.tmps.size
 fdef:s.defers=A.defers
 slot:∀ t,(∀ j o,j < m->ops[j]?=some o->o.dst=some t->listed.getD j false=true)->s.tmps[t]?=(A.put dst (d_H b)).tmps[t]?
 below:Below w.heap.size w W
 made:al < m->listed.getD al false=true->Made w obj b W
 closed:∀ j o,ops[j]?=some o->listed.getD j false=true->∀ e∈o.after,Region.binds .any e=true->listed.getD e.on false=true
theorem b_A {D:Array Bool} {i:Nat} {o:Oper} (J:ops[i]?=some o) (H:∀ e∈o.after,Region.binds .any e=true->D.getD e.on false=true)
  (h:∀ j o,ops[j]?=some o->D.getD j false=true->∀ e∈o.after,Region.binds .any e=true->D.getD e.on false=true):
  ∀ j o,ops[j]?=some o->(D.setIfInBounds i true).getD j false=true->∀ e∈o.after,Region.binds .any e=true->(D.setIfInBounds i true).getD e.on false=true:=by
 intro j L E I e he hb;by_cases c:i=j
 ·subst c;rw [J] at E;cases E;exact getD_set_true (H e he hb)
 ·rw [getD_set_ne false c] at I;exact getD_set_true (h j L E I e he hb)
theorem Inv.look {w W:World} {al m b:Nat} {obj:Obj} {dst:Option Tmp} {A s:Act} {D:Array Bool} {o:Oper} (V:Inv ops w al m obj dst A D s W b)
  (I:∀ o,al < m->ops[al]?=some o->o.dst=dst) (L:m<=al->dst=none)
  (M:∀ j t,j < m->(ops[j]?).bind (·.dst)=some t->t∈o.looksAt ops->a_4 o j=true/\j≠al) (U:al < ops.size∨m<=al)
  (E:∀ e∈o.after,Region.binds .any e=true->D.getD e.on false=true) (t:Nat) (R:t∈o.looksAt ops):s.tmps[t]?=A.tmps[t]?:=by
 rw [V.slot t fun j oj hj J H=>a_q (M j t hj (by rw [J];exact H) R).1 E];refine a_7 fun H=>?_;rcases Nat.lt_or_ge al m with c|c
 ·have O:ops[al]?=some (ops[al]'(by omega)):=Array.getElem?_eq_getElem (by omega);have:=I _ c O;exact (M al t c (by rw [O];exact this.trans H) R).2 rfl
 ·rw [L c] at H;cases H
theorem Inv.all {w W:World} {al m b:Nat} {obj:Obj} {dst:Option Tmp} {A s:Act} {D:Array Bool} (I:Inv ops w al m obj dst A D s W b)
  (h:∀ j,j < m->D.getD j false=true):s=A.put dst (d_H b):=by
 have H:s.tmps=(A.put dst (d_H b)).tmps:=Array.ext_getElem? fun t=>I.slot t fun j _ L _ _=>h j L;have E:s.defers=(A.put dst (d_H b)).defers:=by rw [b_s];exact I.fdef
 cases s;cases J:A.put dst (d_H b);rw [J] at H E;simp only at H E;rw [H,E]
theorem j_p {w:World} {al m:Nat} {obj:Obj} {dst:Option Tmp} {A:Act} (hB:h_E ops al m=true)
  (ay:∀ i o,i < m->i≠al->ops[i]?=some o->r_l P ops w A o)
  (ah:∀ o,al < m->ops[al]?=some o->o.dst=dst/\Region.wanted o (yielded ops A.tmps)=true/\∀ W,Below w.heap.size w W->(execOp A.eval o).run P W = .ok (.value (d_H W.heap.size)) (W.alloc obj))
  (aG:∀ t,dst=some t->t < A.tmps.size) (ar:m<=al->dst=none)
  (ht:∀ W b,Below w.heap.size w W->(al < m->Made w obj b W)->wpList P ops Q (ops.toList.drop m) (A.put dst (d_H b)) W):
  ∀ (fuel:Nat) (D:Array Bool) (s:Act) (W:World) (b:Nat),D.toList.count false=fuel->Inv ops w al m obj dst A D s W b->wpAny P .any ops Q fuel D s W:=by
 simp only [h_E,Bool.and_eq_true,decide_eq_true_eq] at hB;obtain ⟨⟨⟨⟨hm,ao⟩,ad⟩,ae⟩,hX⟩:=hB
 have hb:∀ i o,ops[i]?=some o->∀ e∈o.after,Region.binds .any e=true->e.on < i:=by
  intro i o I e he aD;have:=List.all_eq_true.1 ad i (List.mem_range.2 (Array.getElem?_eq_some_iff.1 I).1);simp only [I,Bool.and_eq_true] at this;have V:=Array.all_eq_true_iff_forall_mem.1 this.1 e he;simpa [aD] using V
 have hT:∀ i o,ops[i]?=some o->∀ j,m<=j->j < i->a_4 o j=true:=by
  intro i o I j J aF;have:=List.all_eq_true.1 ad i (List.mem_range.2 (Array.getElem?_eq_some_iff.1 I).1);simp only [I,Bool.and_eq_true] at this;have:=List.all_eq_true.1 this.2 j (List.mem_range.2 aF);simp only [Bool.or_eq_true,decide_eq_true_eq] at this;rcases this with h|h
  ·omega
  ·exact h
 have hS:m < ops.size->∀ j,j < m->∃ k o,j < k/\k<=m/\ops[k]?=some o/\a_4 o j=true:=by
  intro aq j J;rw [Bool.or_eq_true] at ae;rcases ae with h|h
  ·simp at h;omega
  ·obtain ⟨k,hk,V⟩:=List.any_eq_true.1 (List.all_eq_true.1 h j (List.mem_range.2 J));simp only [Bool.and_eq_true,decide_eq_true_eq] at V;have aE:k < ops.size:=by have:=List.mem_range.1 hk;omega
   have I:ops[k]?=some ops[k]:=Array.getElem?_eq_getElem aE;rw [I] at V;exact ⟨k,_,V.1,by have:=List.mem_range.1 hk;omega,I,V.2⟩
 have ap:∀ i o,i < m->ops[i]?=some o->∀ j t,j < m->(ops[j]?).bind (·.dst)=some t->(t∈o.looksAt ops->a_4 o j=true/\j≠al)/\(i≠j->o.dst≠some t):=by
  intro i o hi I j t J U;have:=List.all_eq_true.1 hX i (List.mem_range.2 hi);simp only [I] at this;have:=List.all_eq_true.1 this j (List.mem_range.2 J);simp only [U,Bool.and_eq_true,Bool.or_eq_true,bne_iff_ne,beq_iff_eq,Bool.not_eq_true',List.contains_eq_mem,decide_eq_false_iff_not] at this;refine ⟨fun hl=>?_,fun ag=>?_⟩
  ·rcases this.1 with h|h
   ·exact absurd hl h
   ·exact h
  ·rcases this.2 with h|h
   ·exact absurd h ag
   ·exact h
 have aC:al < ops.size∨m<=al:=by omega
 intro fuel
 induction fuel with
 | zero=>
  intro D s W b hc E
  have aH:m=ops.size:=by
   rcases Nat.lt_or_ge m ops.size with c|c
   ·exact absurd (E.head m (Nat.le_refl _) c) (b_t hc m)
   ·omega
  have H:∀ j,j < m->D.getD j false=true:=fun j J=>d_3 (by rw [E.size];omega) (b_t hc j);rw [E.all H];have h:=ht W b E.below (fun c=>E.made c (H al c));rw [List.drop_eq_nil_of_le (by simp;omega)] at h;refine ⟨?_,h⟩;refine List.eq_nil_iff_forall_not_mem.2 fun i hi=>?_;exact b_t hc i (mem_ready.1 hi).1
 | succ fuel ih=>
  intro D s W b hc E
  refine ⟨fun hr=>by
   obtain ⟨i,hi⟩:=d_t hc;exact absurd hr (c_J E.size hb i hi),fun i hi=>?_⟩
  obtain ⟨aw,o,I,H⟩:=mem_ready.1 hi;have aA:i < ops.size:=(Array.getElem?_eq_some_iff.1 I).1;rcases Nat.lt_or_ge i m with ac|ac
  ·have af:=E.look (o:=o) (fun o V h2=>(ah o V h2).1) ar (fun j t J U hl=>(ap i o ac I j t J U).1 hl) aC H;have he:=c_b (ops:=ops) (Region.noSelect_spec ao i o · · I) af;have ai:=b_y af
   have R:∀ (v:Value) (W':World),i≠al->(∀ t,o.dst=some t->A.tmps[t]?=some v)->Below W.heap.size W W'->wpAny P .any ops Q fuel (D.setIfInBounds i true) (s.put o.dst v) W':=by
    intro v W' L hv az;refine ih _ _ W' b (a_2 aw hc) ⟨by simpa using E.size,fun j J ak=>by rw [getD_set_ne true (by omega)];exact E.head j J ak,by rw [a_J];exact E.fsize,by rw [b_s];exact E.fdef,fun t O=>?_,E.below.trans (az.mono E.below.size),fun c hl=>?_,b_A I H E.closed⟩
    ·by_cases U:o.dst=some t
     ·have ag:dst≠some t:=by
       intro am;rcases Nat.lt_or_ge al m with c|c
       ·have au:ops[al]?=some (ops[al]'(by omega)):=Array.getElem?_eq_getElem (by omega);exact (ap i o ac I al t c (by rw [au];exact ((ah _ c au).1).trans am)).2 L U
       ·rw [ar c] at am;cases am
      rw [a_7 ag,hv t U,U]
      have aq:t < s.tmps.size:=by
       rw [E.fsize];exact (Array.getElem?_eq_some_iff.1 (hv t U)).1
      exact b_F aq
     ·rw [a_7 U];refine E.slot t fun j oj J M ab=>?_;have:=O j oj J M ab;by_cases c:i=j
      ·subst c;rw [I] at M;cases M;exact absurd ab U
      ·rw [getD_set_ne false c] at this;exact this
    ·rw [getD_set_ne false L] at hl;exact (E.made c hl).up az
   unfold wpOp;simp only [I];by_cases L:i=al
   ·subst L;obtain ⟨U,hw,ax⟩:=ah o ac I;rw [if_pos (ai.trans hw)]
    left
    unfold Oper.wp;rw [he,ax W E.below,Oper.upon_value];refine ih _ _ _ W.heap.size (a_2 aw hc) ⟨by simpa using E.size,fun j J ak=>by rw [getD_set_ne true (by omega)];exact E.head j J ak,by rw [a_J];exact E.fsize,by rw [b_s];exact E.fdef,fun t O=>?_,E.below.alloc E.below.size obj,fun c _=>?_,b_A I H E.closed⟩
    ·rw [U];by_cases aa:dst=some t
     ·rw [aa];have V:=aG t aa;rw [b_F V,b_F (by rw [E.fsize];exact V)]
     ·rw [a_7 aa,a_7 aa]
      have:=E.slot t fun j oj J M ab=>by
       have h2:=O j oj J M ab;by_cases c:i=j
       ·subst c;rw [I] at M;cases M;exact absurd (U.symm.trans ab) aa
       ·rw [getD_set_ne false c] at h2;exact h2
      rw [this,a_7 aa]
    ·refine ⟨by simp,E.below.size,?_⟩;show (W.heap.push obj)[W.heap.size]?=some obj;simp
   ·rcases ay i o ac L I with ⟨hw,hf⟩|⟨hw,hu⟩
    ·rw [if_pos (ai.trans hw)]
     left
     obtain ⟨v,hv,hq⟩:=hf W E.below;unfold Oper.wp;unfold Oper.quietAt at hq;rw [he];generalize (execOp A.eval o).run P W=r at hq;cases r with
     | halt x w'=>exact hq.elim
     | ok n w'=>
      cases n <;> simp only [Oper.quietUpon] at hq <;> simp only [Oper.upon]
      case value u=>
       obtain ⟨e1,e2⟩:=hq;rw [e1,e2];exact R v W L hv (Below.refl _ _)
      case skip=>
       obtain ⟨e1,e2⟩:=hq;rw [e1,<- e2];exact R v W L hv (Below.refl _ _)
      case enter f args=>
       obtain ⟨e1,hc⟩:=hq;rw [e1];exact hc.mono fun e aB ⟨he,an⟩=>by subst he;exact R v aB L hv an
    ·rw [if_neg (by rw [ai,hw];exact Bool.false_ne_true)];exact R undef W L hu (Below.refl _ _)
  ·obtain rfl:i=m:=by
    rcases Nat.lt_or_ge m i with c|c
    ·have V:=a_q (hT i o I m (Nat.le_refl _) c) H;have h2:=(b_n (E.head m (Nat.le_refl _) (by omega))).2;rw [V] at h2;cases h2
    ·omega
   have hl:∀ d j,i - j=d->j < i->D.getD j false=true:=by
    intro d
    induction d using Nat.strongRecOn with
    | _ d ihd=>
     intro j U J;obtain ⟨k,ok,aI,hk,aj,av⟩:=hS aA j J;rcases Nat.lt_or_ge k i with c|c
     ·have:=ihd (i - k) (by omega) k rfl c;exact a_q av (E.closed k ok aj this)
     ·obtain rfl:k=i:=by omega
      rw [I] at aj;cases aj;exact a_q av H
   have hl:=fun j J=>hl (i - j) j rfl J;have hs:=E.all hl;have h:=ht W b E.below (fun c=>E.made c (hl al c));rw [<- hs] at h;exact (g_J (P:=P) (Q:=Q) hb hT (fuel+1) i D s W E.size (Nat.le_refl _) hc hl E.head h).2 i hi
theorem h_F {w:World} {al m:Nat} {obj:Obj} {dst:Option Tmp} {A a:Act} {l:List Oper} {C:World->Prop} (hm:m<=ops.size) (hl:l=(ops.toList.take m).eraseIdx al) (V:wpQuiet P ops C (fun R=>R=A) l a)
  (O:∀ o,al < m->ops[al]?=some o->o.dst=dst) (M:m<=al->dst=none) (W:World) (hW:Below w.heap.size w W):
  Inv ops w al m obj dst A (Array.replicate ops.size false) a W 0:=by
 obtain ⟨h1,U,h3⟩:=c_6 l a V;refine ⟨by simp,fun j _ J=>by simp [J],h1.symm,U.symm,fun t hc=>?_,hW,fun c h=>?_,fun j o D h=>?_⟩
 ·have H:∀ j o,j < m->ops[j]?=some o->o.dst≠some t:=by
   intro j o J D I;have:=hc j o J D I;have E:j < ops.size:=(Array.getElem?_eq_some_iff.1 D).1;simp [E] at this
  rw [a_7 (fun I=>by
   rcases Nat.lt_or_ge al m with c|c
   ·have D:ops[al]?=some (ops[al]'(by omega)):=Array.getElem?_eq_getElem (by omega);exact H al _ c D ((O _ c D).trans I)
   ·rw [M c] at I;cases I),h3 t (fun L=>by
   obtain ⟨o,D,I⟩:=List.mem_filterMap.1 L;rw [hl] at D;have D:=List.mem_of_mem_eraseIdx D;obtain ⟨j,J,e⟩:=List.getElem_of_mem D;simp at J e;exact H j o (by omega) (by rw [Array.getElem?_eq_getElem (by omega),e]) I)]
 ·have E:al < ops.size:=by omega
  simp [E] at h
 ·have E:j < ops.size:=(Array.getElem?_eq_some_iff.1 D).1;simp [E] at h
theorem j_q {al m:Nat} {l:List Oper} (I:l=(ops.toList.take m).eraseIdx al) (i:Nat) (o:Oper) (H:i < m) (J:i≠al) (E:ops[i]?=some o):o∈l:=by
 rw [I]
 have D:(ops.toList.take m)[i]?=some o:=by
  rw [List.getElem?_take_of_lt H];simpa using E
 rcases Nat.lt_or_ge i al with c|c
 ·exact List.mem_of_getElem? (i:=i) (by rw [List.getElem?_eraseIdx_of_lt c];exact D)
 ·refine List.mem_of_getElem? (i:=i - 1) (l:=(ops.toList.take m).eraseIdx al) ?_;rw [List.getElem?_eraseIdx_of_ge (by omega),show i - 1+1=i by omega];exact D
/-- THE LAW: no block is made; the first m operations are quiet, the rest waits for all. -/
theorem p_O {id:Nat} {a A:Act} {w:World} {l:List Oper} (m n:Nat) (hm:P.follows .mixedOrders=true) (hn:a.tmps.size=n) (I:(h_E ops m m && c_7 ops n l)=true) (O:l=ops.toList.take m)
  (R:∀ F,Fam w F->wpQuiet P ops (fun W=>∃ d,W=F d) (fun U=>U=A) l a)
  (ht:∀ F,Fam w F->∀ d,wpList P ops Q (ops.toList.drop m) A (F d)):(Code.region id ops true).wp P Q a w:=by
 rw [Bool.and_eq_true] at I;have D:=I.1;simp only [h_E,Bool.and_eq_true,decide_eq_true_eq] at D
 have H:l=(ops.toList.take m).eraseIdx m:=by
  rw [O,List.eraseIdx_of_length_le (by simp;omega)]
 have E:∀ o,o∈l->∀ L b,o.op≠.select L b:=by
  intro o J L b;rw [O] at J;obtain ⟨j,hj,e⟩:=List.getElem_of_mem (List.mem_of_mem_take J);exact Region.noSelect_spec D.1.1.1.2 j o L b (by rw [<- e];simp at hj ⊢)
 refine wp_region_any hm (j_p (w:=w) (al:=m) (m:=m) (obj:=.cells #[] 0) (dst:=none) (A:=A) I.1 (fun i o hi M J=>j_o hn E I.2 R o (j_q H i o hi M J)) (fun o c=>absurd c (by omega)) (fun t h=>by cases h) (fun _=>rfl) (fun W b V _=>?_) _ _ _ _ 0 ?_ (h_F D.1.1.1.1 H (R _ (d_O (Below.refl _ _))) (fun o c=>absurd c (by omega)) (fun _=>rfl) _ ⟨rfl,rfl,rfl,Nat.le_refl _,fun _ _=>rfl⟩))
 ·obtain ⟨d,rfl⟩:=d_s V;exact ht _ (d_O (Below.refl _ _)) d
 ·simp
/-- THE LAW, with a block that is made by operation number al. -/
theorem i_m {id:Nat} {a A:Act} {w:World} {l:List Oper} {obj:Obj} (al m n d:Nat) (U:Oper) (hm:P.follows .mixedOrders=true) (hn:a.tmps.size=n) (L:(h_E ops al m && c_7 ops n l && decide (al < m) && decide (d < n))=true) (hl:l=(ops.toList.take m).eraseIdx al)
  (E:ops[al]?=some U) (hd:U.dst=some d) (hg:U.guard=none)
  (O:∀ W,Below w.heap.size w W->(execOp A.eval U).run P W = .ok (.value (d_H W.heap.size)) (W.alloc obj))
  (hw:∀ F,Fam w F->wpQuiet P ops (fun W=>∃ d,W=F d) (fun a'=>a'=A) l a)
  (ht:∀ W b,Below w.heap.size w W->Made w obj b W->wpList P ops Q (ops.toList.drop m) (A.put (some d) (d_H b)) W):(Code.region id ops true).wp P Q a w:=by
 simp only [Bool.and_eq_true,decide_eq_true_eq] at L;obtain ⟨⟨⟨L,J⟩,R⟩,ab⟩:=L;have H:=L;simp only [h_E,Bool.and_eq_true,decide_eq_true_eq] at H
 have M:∀ o,o∈l->∀ V b,o.op≠.select V b:=by
  intro o E V b;rw [hl] at E;obtain ⟨j,hj,e⟩:=List.getElem_of_mem (List.mem_of_mem_take (List.mem_of_mem_eraseIdx E));exact Region.noSelect_spec H.1.1.1.2 j o V b (by rw [<- e];simp at hj ⊢)
 have I:=hw _ (d_O (Below.refl _ _));have ac:=(c_6 l a I).1
 have D:∀ o,al < m->ops[al]?=some o->o.dst=some d:=fun o _ h=>by
  rw [E] at h;cases h;exact hd
 refine wp_region_any hm (j_p (w:=w) (al:=al) (m:=m) (obj:=obj) (dst:=some d) (A:=A) L (fun i o hi aa E=>j_o hn M J hw o (j_q hl i o hi aa E)) (fun o c h=>⟨D o c h,?_,?_⟩) (fun t h=>by cases h;rw [ac,hn];exact ab) (fun c=>by omega) (fun W b hW hM=>ht W b hW (hM R)) _ _ _ _ 0 ?_ (h_F H.1.1.1.1 hl I D (fun c=>by omega) _ ⟨rfl,rfl,rfl,Nat.le_refl _,fun _ _=>rfl⟩))
 ·rw [E] at h;cases h;unfold Region.wanted;rw [hg]
 ·rw [E] at h;cases h;exact O
 ·simp
theorem j_r {id:Nat} {a:Act} {w:World} {l:List Oper} (m n:Nat) (J:P.follows .mixedOrders=true) (D:a.tmps.size=n) (I:l=ops.toList.take m) (H:(h_E ops m m && c_7 ops n l)=true)
  (h:∃ A,(∀ F,Fam w F->wpQuiet P ops (fun W=>∃ d,W=F d) (fun E=>E=A) l a)/\∀ W,Below w.heap.size w W->wpList P ops Q (ops.toList.drop m) A W):(Code.region id ops true).wp P Q a w:=
 let ⟨A,h1,h2⟩:=h
 p_O (A:=A) m n J D H I h1 (fun _ hF d=>h2 _ (hF.below d))
theorem d_4 {id:Nat} {a:Act} {w:World} {l:List Oper} {D:Oper} (obj:Obj) (al m n d:Nat) (R:P.follows .mixedOrders=true) (E:a.tmps.size=n) (O:l=(ops.toList.take m).eraseIdx al) (I:(h_E ops al m && c_7 ops n l && decide (al < m) && decide (d < n))=true)
  (M:ops[al]?=some D) (J:D.dst=some d) (L:D.guard=none)
  (h:∃ A,(∀ F,Fam w F->wpQuiet P ops (fun W=>∃ d,W=F d) (fun H=>H=A) l a)/\(∀ W,(execOp A.eval D).run P W = .ok (.value (d_H W.heap.size)) (W.alloc obj))/\
   ∀ W b,Below w.heap.size w W->Made w obj b W->wpList P ops Q (ops.toList.drop m) (A.put (some d) (d_H b)) W):(Code.region id ops true).wp P Q a w:=
 let ⟨A,h1,h2,h3⟩:=h
 i_m (A:=A) (obj:=obj) al m n d D R E I O M J L (fun W _=>h2 W) h1 h3
theorem Made.frozen {w W:World} {b:Nat} {D:Array Value} {t:TypeId} (h:Made w (.cells D t) b W) (i:Nat):W.frozen? ⟨b,i,none⟩=false:=by
 unfold World.frozen?;simp [h.2.2]
theorem a_8 {B:Nat} {a w:World} (h:Below B a w) (b:Nat) (hb:B<=b) (x y:Value):Below B a ((w.setCell ⟨b,0,none⟩ x).setCell ⟨b,1,none⟩ y):=
 (h.setCell (p:=⟨b,0,none⟩) hb x).setCell (p:=⟨b,1,none⟩) hb y
theorem a_Q {c:Code} {a:Act} {w:World} (h:∀ D,D=w->c.wp P Q a D):c.wp P Q a w:=h w rfl
theorem Made.cell {w W:World} {b i:Nat} {D:Array Value} {t:TypeId} {E:Nat×Nat} {v:Value} (h:Made w (.cells D t E) b W) (H:D[i]?=some v):W.cell? ⟨b,i,none⟩=some v:=by
 unfold World.cell?;simp only [h.2.2];simpa using H
end
section
variable {P : Program} {ops : Array Oper} {Q : Exit -> Act -> World -> Prop}
/-- What the operation number k hands back, and what stays true of it. -/
structure Told where
 k:Nat
 t:Tmp
 φ:Value->World->Prop
/-- The frame G with the told values in their slots. -/
def b_k (ks:List Told) (x:Nat->Value) (G:Act):Act:=ks.foldl (fun a e=>a.put (some e.t) (x e.k)) G
theorem e_r (x:Nat->Value):∀ (ks:List Told) (G:Act),(b_k ks x G).tmps.size=G.tmps.size
 | [],_=>rfl
 | e :: ks,G=>by rw [b_k,List.foldl_cons];exact (e_r x ks _).trans (a_J _ _ _)
theorem b_N (x:Nat->Value):∀ (ks:List Told) (G:Act),(b_k ks x G).defers=G.defers
 | [],_=>rfl
 | e :: ks,G=>by rw [b_k,List.foldl_cons];exact (b_N x ks _).trans (b_s _ _ _)
theorem h_G (x:Nat->Value) (t:Tmp):∀ (ks:List Told) (G:Act),(∀ e,e∈ks->e.t≠t)->(b_k ks x G).tmps[t]?=G.tmps[t]?
 | [],_,_=>rfl
 | e :: ks,G,h=>by
  rw [b_k,List.foldl_cons];refine (h_G x t ks _ fun e he=>h e (List.mem_cons_of_mem _ he)).trans (a_7 fun D=>h e List.mem_cons_self (Option.some.inj D))
theorem g_K (x:Nat->Value):∀ (ks:List Told) (G:Act),(ks.map (·.t)).Nodup->∀ e,e∈ks->e.t < G.tmps.size->(b_k ks x G).tmps[e.t]?=some (x e.k)
 | [],_,_,e,he,_=>by cases he
 | f :: ks,G,hn,e,he,hlt=>by
  rw [List.map_cons,List.nodup_cons] at hn;rw [b_k,List.foldl_cons];rcases List.mem_cons.1 he with rfl|he
  ·refine (h_G x e.t ks _ fun g E D=>hn.1 (List.mem_map.2 ⟨g,E,D⟩)).trans (b_F hlt)
  ·exact g_K x ks _ hn.2 e he (by rw [a_J];exact hlt)
/-- Another value for one of them. -/
def upd (x:Nat->Value) (k:Nat) (v:Value):Nat->Value:=fun j=>if j=k then v else x j
theorem d_5 (x:Nat->Value) (k:Nat) (v:Value) (t:Tmp):∀ (ks:List Told) (G D:Act),D.tmps[t]?=G.tmps[t]?->D.tmps.size=G.tmps.size->(∀ e,e∈ks->e.k=k->e.t≠t)->(b_k ks (upd x k v) D).tmps[t]?=(b_k ks x G).tmps[t]?
 | [],_,_,h,_,_=>h
 | e :: ks,G,D,h,hs,hk=>by
  rw [b_k,b_k,List.foldl_cons,List.foldl_cons];refine d_5 x k v t ks _ _ ?_ (by rw [a_J,a_J];exact hs) fun e he=>hk e (List.mem_cons_of_mem _ he);by_cases c:e.t=t
  ·have H:e.k≠k:=fun h=>hk e List.mem_cons_self h c;have I:upd x k v e.k=x e.k:=if_neg H;rw [I];subst c;by_cases d:e.t < G.tmps.size
   ·rw [b_F d,b_F (by rw [hs];exact d)]
   ·rw [Array.getElem?_eq_none (by rw [a_J,hs];exact Nat.le_of_not_lt d),Array.getElem?_eq_none (by rw [a_J];exact Nat.le_of_not_lt d)]
  ·rw [a_7 (fun E=>c (Option.some.inj E)),a_7 (fun E=>c (Option.some.inj E))];exact h
def a_O (ks:List Told) (i:Nat):Option Told:=ks.find? fun e=>e.k==i
/-- What is known, at an operation, of the told values that it looks at. -/
def c_n (ops:Array Oper) (ks:List Told) (o:Oper) (x:Nat->Value) (F:World->World):Prop:=∀ e,e∈ks->(o.looksAt ops).contains e.t=true->∀ d,e.φ (x e.k) (F d)
/-- The operation yields a value of which φ holds, and keeps what stood. -/
def a_f (P:Program) (φ:Value->World->Prop) (W:World):Result Next->Prop
 | .ok (.value u) W'=>φ u W'/\Below W.heap.size W W'
 | .ok .skip W'=>φ undef W'/\Below W.heap.size W W'
 | .ok (.enter f args) W'=>W'=W/\Calls P f args W (fun e W''=>∃ v,e = .returned v/\φ v W''/\Below W.heap.size W W'')
 | _=>False
def a_j (P:Program) (o:Oper) (a:Act) (W:World) (φ:Value->World->Prop):Prop:=a_f P φ W ((execOp a.eval o).run P W)
/-- The walk in the order of the text. -/
def a_9 (P:Program) (ops:Array Oper) (w:World) (ks:List Told) (x:Nat->Value) (G:Act):Nat->List Oper->Act->Prop
 | _,[],a=>a=G
 | i,o :: l,a=>match a_O ks i with
  | none=>∃ v,(∀ F,Fam w F->c_n ops ks o x F->if Region.wanted o (yielded ops a.tmps)=true then ∀ K:Act->Prop,K (a.put o.dst v)->o.quiet P a (fun W=>∃ d,W=F d) K else v=undef)/\a_9 P ops w ks x G (i+1) l (a.put o.dst v)
  | some e=>(∀ F,Fam w F->c_n ops ks o x F->Region.wanted o (yielded ops a.tmps)=true/\∀ d,a_j P o a (F d) e.φ)/\a_9 P ops w ks x G (i+1) l (a.put (some e.t) (x e.k))
/-- The dumps' shape, for a list of told operations: each is among the first m, writes the slot that it names; no two of them write one slot. -/
def i_n (ops:Array Oper) (ks:List Told) (m n:Nat):Bool:=
 (ks.all fun e=>decide (e.k < m) && decide (e.t < n) && (((ops[e.k]?).bind (·.dst))==some e.t)) && decide (ks.map (·.t)).Nodup && decide (ks.map (·.k)).Nodup
theorem c_c {ks:List Told} {i:Nat} {e:Told} (h:a_O ks i=some e):e∈ks/\e.k=i:=by
 unfold a_O at h;exact ⟨List.mem_of_find?_eq_some h,by simpa using List.find?_some h⟩
theorem d_P {ks:List Told} {i:Nat} (h:a_O ks i=none):∀ e,e∈ks->e.k≠i:=by
 unfold a_O at h;intro e he D;have:=List.find?_eq_none.1 h e he;simp [D] at this
theorem f_o {w:World} {ks:List Told} {x:Nat->Value} {G:Act}:∀ (l:List Oper) (i:Nat) (a:Act),(∀ j e,a_O ks (i+j)=some e->∀ o,l[j]?=some o->o.dst=some e.t)->a_9 P ops w ks x G i l a->
  G.tmps.size=a.tmps.size/\G.defers=a.defers/\∀ t,t∉r_k l->G.tmps[t]?=a.tmps[t]?
 | [],i,a,_,h=>by
  obtain rfl:a=G:=h;exact ⟨rfl,rfl,fun _ _=>rfl⟩
 | o :: l,i,a,hk,h=>by
  obtain ⟨v,J⟩:∃ v,a_9 P ops w ks x G (i+1) l (a.put o.dst v):=by
   rw [a_9] at h
   split at h
   ·obtain ⟨v,_,D⟩:=h;exact ⟨v,D⟩
   ·rename_i e he
    have:=hk 0 e he o rfl;rw [this];exact ⟨_,h.2⟩
  obtain ⟨I,D,M⟩:=f_o l (i+1) _ (fun j e he o L=>hk (j+1) e (by rw [show i+(j+1)=i+1+j by omega];exact he) o (by simpa using L)) J;refine ⟨by rw [I,a_J],by rw [D,b_s],fun t H=>?_⟩
  rw [M t (fun R=>H (by
   obtain ⟨x,O,E⟩:=List.mem_filterMap.1 R;exact List.mem_filterMap.2 ⟨x,List.mem_cons_of_mem _ O,E⟩)),a_7 (fun E=>H (List.mem_filterMap.2 ⟨o,List.mem_cons_self,E⟩))]
/-- What an operation yields in the last frame G, in the families of whose worlds the facts hold. -/
def l_y (P:Program) (ops:Array Oper) (w:World) (ks:List Told) (x:Nat->Value) (G:Act) (i:Nat) (o:Oper):Prop:=
 ∀ F,Fam w F->c_n ops ks o x F->match a_O ks i with
  | none=>(Region.wanted o (yielded ops G.tmps)=true/\∃ v,(∀ t,o.dst=some t->G.tmps[t]?=some v)/\∀ d,o.quietAt P G (fun W=>∃ d,W=F d) (F d) v)∨(Region.wanted o (yielded ops G.tmps)=false/\∀ t,o.dst=some t->G.tmps[t]?=some undef)
  | some e=>Region.wanted o (yielded ops G.tmps)=true/\∀ d,a_j P o G (F d) e.φ
theorem l_z {w:World} {ks:List Told} {x:Nat->Value} {G:Act} (n:Nat):∀ (l:List Oper) (i:Nat) (a:Act),a.tmps.size=n->(∀ o,o∈l->∀ cs b,o.op≠.select cs b)->c_7 ops n l=true->
  (∀ j e,a_O ks (i+j)=some e->∀ o,l[j]?=some o->o.dst=some e.t)->a_9 P ops w ks x G i l a->∀ j o,l[j]?=some o->l_y P ops w ks x G (i+j) o
 | [],_,_,_,_,_,_,_,j,o,U=>by simp at U
 | o :: l,i,a,hn,hs,hl,hk,h,j,p,H=>by
  have aa:=f_o (o :: l) i a hk h;rw [c_7,Bool.and_eq_true,Bool.and_eq_true] at hl;obtain ⟨⟨E,O⟩,hl⟩:=hl
  have J:∀ t,t∈o.looksAt ops->G.tmps[t]?=a.tmps[t]?:=fun t L=>aa.2.2 t (fun hm=>by
   have:=List.all_eq_true.1 O t hm;simp at this;exact this L)
  have he:=c_b (ops:=ops) (hs o List.mem_cons_self) J;have hw:=b_y J;have R:∀ j e,a_O ks (i+1+j)=some e->∀ o,l[j]?=some o->o.dst=some e.t:=fun j e he o U=>hk (j+1) e (by rw [show i+(j+1)=i+1+j by omega];exact he) o (by simpa using U)
  have I:∀ v,a_9 P ops w ks x G (i+1) l (a.put o.dst v)->∀ j p,(o :: l)[j+1]?=some p->l_y P ops w ks x G (i+(j+1)) p:=fun v hv j p H=>by
   have:=l_z n l (i+1) (a.put o.dst v) (by rw [a_J];exact hn) (fun o U=>hs o (List.mem_cons_of_mem _ U)) hl R hv j p (by simpa using H);rw [show i+(j+1)=i+1+j by omega];exact this
  have D:∀ v,a_9 P ops w ks x G (i+1) l (a.put o.dst v)->∀ t,o.dst=some t->G.tmps[t]?=some v:=by
   intro v hv t L;rw [L] at E hv;simp at E;rw [(f_o l (i+1) _ R hv).2.2 t E.2,b_F (by rw [hn];exact E.1)]
  rw [a_9] at h;cases V:a_O ks i with
  | none=>
   rw [V] at h;obtain ⟨v,h1,h2⟩:=h;cases j with
   | succ j=>exact I v h2 j p H
   | zero=>
    simp only [List.getElem?_cons_zero,Option.some.injEq] at H;subst H;intro F hF hf;rw [Nat.add_zero,V];have M:=h1 F hF hf;by_cases c:Region.wanted o (yielded ops a.tmps)=true
    ·rw [if_pos c] at M;obtain ⟨u,hu,hK⟩:=M (fun a'=>a'=a.put o.dst v) rfl
     left
     refine ⟨hw.trans c,u,?_,fun d=>?_⟩
     ·intro t L;rw [D v h2 t L];rw [L] at hK E;simp at E;have e1:(a.put (some t) u).tmps[t]?=(a.put (some t) v).tmps[t]?:=congrArg (fun a=>a.tmps[t]?) hK;rw [b_F (by rw [hn];exact E.1),b_F (by rw [hn];exact E.1)] at e1;exact e1.symm
     ·have:=hu _ ⟨d,rfl⟩;unfold Oper.quietAt at *;rw [he];exact this
    ·rw [if_neg c] at M
     right
     refine ⟨hw.trans (by simpa using c),fun t L=>?_⟩;rw [D v h2 t L,M]
  | some e=>
   rw [V] at h;have ab:=hk 0 e V o rfl;cases j with
   | succ j=>exact I (x e.k) (by rw [ab];exact h.2) j p H
   | zero=>
    simp only [List.getElem?_cons_zero,Option.some.injEq] at H;subst H;intro F hF hf;rw [Nat.add_zero,V];have M:=h.1 F hF hf;refine ⟨hw.trans M.1,fun d=>?_⟩;have:=M.2 d;unfold a_j at *;rw [he];exact this
theorem d_u:∀ (ks:List Told),(ks.map (·.k)).Nodup->∀ e,e∈ks->a_O ks e.k=some e
 | [],_,e,he=>by cases he
 | f :: ks,hn,e,he=>by
  rw [List.map_cons,List.nodup_cons] at hn;unfold a_O;rw [List.find?_cons];rcases List.mem_cons.1 he with rfl|he
  ·simp
  ·have D:f.k≠e.k:=fun h=>hn.1 (List.mem_map.2 ⟨e,he,h.symm⟩);have:(f.k==e.k)=false:=by simpa using D
   rw [this];exact d_u ks hn.2 e he
structure InvR (ops:Array Oper) (w:World) (ks:List Told) (m:Nat) (G:Act) (listed:Array Bool) (s:Act) (W:World) (x:Nat->Value):Prop where
 size:listed.size=ops.size
 head:∀ j,m<=j->j < ops.size->listed.getD j true=false
 fsize:s.tmps.size=G.tmps.size
 fdef:s.defers=G.defers
 slot:∀ t,(∀ j o,j < m->ops[j]?=some o->o.dst=some t->listed.getD j false=true)->s.tmps[t]?=G.tmps[t]?
 below:Below w.heap.size w W
 told:∀ e,e∈ks->listed.getD e.k false=true->e.φ (x e.k) W
 closed:∀ j o,ops[j]?=some o->listed.getD j false=true->∀ e∈o.after,Region.binds .any e=true->listed.getD e.on false=true
theorem InvR.all {w W:World} {ks:List Told} {m:Nat} {G s:Act} {D:Array Bool} {x:Nat->Value} (H:InvR ops w ks m G D s W x) (h:∀ j,j < m->D.getD j false=true):s=G:=by
 have I:s.tmps=G.tmps:=Array.ext_getElem? fun t=>H.slot t fun j _ J _ _=>h j J;have E:=H.fdef;cases s;cases G;simp only at I E;rw [I,E]
theorem a_l {w:World} {ks:List Told} {x:Nat->Value} {G a:Act} {i:Nat} {o:Oper} {l:List Oper} (D:a_O ks i=none) (I:Region.wanted o (yielded ops a.tmps)=true)
  (h:∃ v,(∀ F,Fam w F->c_n ops ks o x F->∀ K:Act->Prop,K (a.put o.dst v)->o.quiet P a (fun W=>∃ d,W=F d) K)/\a_9 P ops w ks x G (i+1) l (a.put o.dst v)):a_9 P ops w ks x G i (o :: l) a:=by
 rw [a_9,D];obtain ⟨v,H,E⟩:=h;exact ⟨v,fun F hF hf=>by rw [if_pos I];exact H F hF hf,E⟩
theorem a_o {w:World} {ks:List Told} {x:Nat->Value} {G a:Act} {i:Nat} {o:Oper} {l:List Oper} {e:Told} (D:a_O ks i=some e) (I:Region.wanted o (yielded ops a.tmps)=true)
  (H:∀ F,Fam w F->c_n ops ks o x F->∀ d,a_j P o a (F d) e.φ) (E:a_9 P ops w ks x G (i+1) l (a.put (some e.t) (x e.k))):a_9 P ops w ks x G i (o :: l) a:=by
 rw [a_9,D];exact ⟨fun F hF hf=>⟨I,H F hF hf⟩,E⟩
theorem b_a {w:World} {ks:List Told} {x:Nat->Value} {G a:Act} {i:Nat} (h:a=G):a_9 P ops w ks x G i [] a:=h
end
section
variable {P : Program} {ops : Array Oper} {Q : Exit -> Act -> World -> Prop}
def j_s (ops:Array Oper) (i0:Nat):Bool:=(List.range ops.size).all fun j=>j==i0 || match ops[j]?,ops[i0]? with
 | some oj,some o0=>a_4 o0 j || a_4 oj i0 || o0.apart ops oj
 | _,_=>false
theorem n_K {E:Nat} {H:Oper} (L:ops[E]?=some H) (h:j_s ops E=true):∀ j D,ops[j]?=some D->j≠E->a_4 H j=false->a_4 D E=false->H.apart ops D=true:=by
 intro j D M J I R;have O:=List.all_eq_true.1 h j (List.mem_range.2 (Array.getElem?_eq_some_iff.1 M).1);simp only [M,L,I,R,Bool.false_or,Bool.or_eq_true,beq_iff_eq,J,false_or] at O;exact O
end
section
variable {P : Program} {ops : Array Oper} {Q : Exit -> Act -> World -> Prop}
def i_o (ops:Array Oper) (L0:List Nat) (m:Nat):Bool:=
 decide (m<=ops.size) && Region.noSelect ops &&
 ((List.range ops.size).all fun i=>match ops[i]? with
  | none=>false
  | some o=>(o.after.all fun e=>!Region.binds .any e || decide (e.on < i)) && (List.range i).all fun j=>decide (j < m) || a_4 o j) &&
 (decide (ops.size<=m) || (List.range m).all fun j=>decide (j∈L0) || (List.range (m+1)).any fun k=>decide (j < k) && decide (k∉L0) && match ops[k]? with
  | none=>false
  | some o=>a_4 o j) &&
 ((List.range m).all fun i=>match ops[i]? with
  | none=>false
  | some o=>(List.range m).all fun j=>match (ops[j]?).bind (·.dst) with
   | none=>true
   | some t=>(!(o.looksAt ops).contains t || (a_4 o j && j != m)) && (i==j || o.dst != some t)) &&
 (L0.all fun i0=>decide (i0 < m) && match ops[i0]? with
  | none=>false
  | some o=>o.after.all fun e=>!Region.binds .any e || decide (e.on∉L0))
theorem a_L {o:Oper} {a:Act} {W:World} {φ ψ:Value->World->Prop} (h:∀ v W',φ v W'->ψ v W') (D:a_j P o a W φ):a_j P o a W ψ:=by
 unfold a_j at D ⊢;generalize (execOp a.eval o).run P W=r at D;cases r with
 | halt x w'=>exact D
 | ok n w'=>
  cases n <;> simp only [a_f] at D ⊢
  case value u=>exact ⟨h _ _ D.1,D.2⟩
  case skip=>exact ⟨h _ _ D.1,D.2⟩
  case enter f args=>exact ⟨D.1,D.2.mono fun J E ⟨v,he,I,H⟩=>⟨v,he,h _ _ I,H⟩⟩
theorem n_L {w:World} {ks:List Told} {m n:Nat} {G:(Nat->Value)->Act} {G0:Act} (L0:List Nat) (fc fa:List Nat) (aa:Value->Option Nat) (bf:∀ e,e∈ks->e.k∈fc->∀ o,ops[e.k]?=some o->∀ x F,Fam w F->c_n ops ks o x F->∀ d,a_j P o (G x) (F d) fun v W'=>e.φ v W'/\∀ b,aa v=some b->(F d).heap.size<=b∨∃ e0,e0∈ks/\e0.k∈fc/\(o.looksAt ops).contains e0.t=true/\aa (x e0.k)=some b) (bi:∀ e,e∈ks->e.k∈fa->∀ o,ops[e.k]?=some o->∀ x F,Fam w F->c_n ops ks o x F->∀ d,a_j P o (G x) (F d) fun v W'=>e.φ v W'/\∀ b,aa v=some b->(F d).heap.size<=b) (a1:∀ e,e∈ks->e.k∈fc∨e.k∈fa->∀ v W,e.φ v W->∀ b,aa v=some b->b < W.heap.size) (aR:∀ k,k∈fc->k∉fa) (a8:∀ L,L∈L0->L∉fc/\L∉fa) (hB:i_o ops L0 m=true) (aM:∀ L,L∈L0->∀ U,ops[L]?=some U->∀ j oj,ops[j]?=some oj->j≠L->a_4 U j=false->a_4 oj L=false->U.apart ops oj=true)
  (hQ:∀ L,L∈L0->∀ U,ops[L]?=some U->∀ c a w v,Q (.panic c) (a.put U.dst v) w->Q (.panic c) a w)
  (aW:∀ L,L∈L0->∀ U,ops[L]?=some U->∀ e,a_O ks L=some e->∀ W x,(∀ E,E∈ks->(U.looksAt ops).contains E.t=true->E.φ (x E.k) W)->∃ v,e.φ v W/\Yields P ops U v (G x))
  (hY:∀ L,L∈L0->∀ U,ops[L]?=some U->a_O ks L=none->∀ x,(∀ e,e∈ks->(U.looksAt ops).contains e.t=true->∃ W,e.φ (x e.k) W)->∃ v,(∀ t,U.dst=some t->(G x).tmps[t]?=some v)/\Yields P ops U v (G x)) (hK:i_n ops ks m n=true)
  (hφ:∀ e,e∈ks->∀ v W W',e.φ v W->Below W.heap.size W W'->e.φ v W') (hG:∀ x,G x=b_k ks x G0) (hn:G0.tmps.size=n)
  (a5:∀ x i o,i < m->ops[i]?=some o->l_y P ops w ks x (G x) i o)
  (ht:∀ W x,Below w.heap.size w W->(∀ e,e∈ks->e.φ (x e.k) W)->(∀ e E,e∈ks->E∈ks->e.k∈fc->E.k∈fa->∀ b,aa (x e.k)=some b->aa (x E.k)≠some b)->wpList P ops Q (ops.toList.drop m) (G x) W):
  ∀ (fuel:Nat) (D:Array Bool) (s:Act) (W:World) (x:Nat->Value),D.toList.count false=fuel->InvR ops w ks m (G x) D s W x->(∀ e E,e∈ks->E∈ks->e.k∈fc->E.k∈fa->D.getD e.k false=true->D.getD E.k false=true->∀ b,aa (x e.k)=some b->aa (x E.k)≠some b)->wpAny P .any ops Q fuel D s W:=by
 simp only [i_o,Bool.and_eq_true,decide_eq_true_eq] at hB;obtain ⟨⟨⟨⟨⟨hm,aA⟩,aC⟩,aK⟩,hX⟩,a2⟩:=hB
 have a6:∀ L,L∈L0->L < m/\∃ U,ops[L]?=some U/\∀ e∈U.after,Region.binds .any e=true->e.on∉L0:=fun L hi=>by
  have h:=List.all_eq_true.1 a2 L hi;cases ho:ops[L]? with
  | none=>rw [ho] at h;simp at h
  | some U=>
   rw [ho] at h;simp only [Bool.and_eq_true,decide_eq_true_eq] at h;refine ⟨h.1,U,rfl,fun e he aL=>?_⟩;have O:=Array.all_eq_true_iff_forall_mem.1 h.2 e he;simpa [aL] using O
 simp only [i_n,Bool.and_eq_true,decide_eq_true_eq] at hK;obtain ⟨⟨hK,bh⟩,a4⟩:=hK
 have af:∀ e,e∈ks->e.k < m/\e.t < n/\(ops[e.k]?).bind (·.dst)=some e.t:=by
  intro e he;have:=List.all_eq_true.1 hK e he;simp only [Bool.and_eq_true,decide_eq_true_eq,beq_iff_eq] at this;exact ⟨this.1.1,this.1.2,this.2⟩
 have hb:∀ i o,ops[i]?=some o->∀ e∈o.after,Region.binds .any e=true->e.on < i:=by
  intro i o ho e he bk;have:=List.all_eq_true.1 aC i (List.mem_range.2 (Array.getElem?_eq_some_iff.1 ho).1);simp only [ho,Bool.and_eq_true] at this;have O:=Array.all_eq_true_iff_forall_mem.1 this.1 e he;simpa [bk] using O
 have hT:∀ i o,ops[i]?=some o->∀ j,m<=j->j < i->a_4 o j=true:=by
  intro i o ho j hj aX;have:=List.all_eq_true.1 aC i (List.mem_range.2 (Array.getElem?_eq_some_iff.1 ho).1);simp only [ho,Bool.and_eq_true] at this;have:=List.all_eq_true.1 this.2 j (List.mem_range.2 aX);simp only [Bool.or_eq_true,decide_eq_true_eq] at this;rcases this with h|h
  ·omega
  ·exact h
 have hS:m < ops.size->∀ j,j < m->j∉L0->∃ k o,j < k/\k<=m/\k∉L0/\ops[k]?=some o/\a_4 o j=true:=by
  intro aZ j hj ba;rw [Bool.or_eq_true] at aK;rcases aK with h|h
  ·simp at h;omega
  ·have h0:=List.all_eq_true.1 h j (List.mem_range.2 hj);rw [Bool.or_eq_true] at h0;have h0:=h0.resolve_left (by simpa using ba);obtain ⟨k,hk,O⟩:=List.any_eq_true.1 h0;simp only [Bool.and_eq_true,decide_eq_true_eq] at O;have aE:k < ops.size:=by have:=List.mem_range.1 hk;omega
   have ho:ops[k]?=some ops[k]:=Array.getElem?_eq_getElem aE;rw [ho] at O;exact ⟨k,_,O.1.1,by have:=List.mem_range.1 hk;omega,O.1.2,ho,O.2⟩
 have aB:∀ i o,i < m->ops[i]?=some o->∀ j t,j < m->(ops[j]?).bind (·.dst)=some t->(t∈o.looksAt ops->a_4 o j=true)/\(i≠j->o.dst≠some t):=by
  intro i o hi ho j t hj hd;have:=List.all_eq_true.1 hX i (List.mem_range.2 hi);simp only [ho] at this;have:=List.all_eq_true.1 this j (List.mem_range.2 hj);simp only [hd,Bool.and_eq_true,Bool.or_eq_true,bne_iff_ne,beq_iff_eq,Bool.not_eq_true',List.contains_eq_mem,decide_eq_false_iff_not] at this;refine ⟨fun hl=>?_,fun ak=>?_⟩
  ·rcases this.1 with h|h
   ·exact absurd hl h
   ·exact h.1
  ·rcases this.2 with h|h
   ·exact absurd h ak
   ·exact h
 have ag:∀ x,(G x).tmps.size=n:=fun x=>by rw [hG,e_r];exact hn
 have bc:∀ x e,e∈ks->(G x).tmps[e.t]?=some (x e.k):=fun x e he=>by
  rw [hG];exact g_K x ks G0 bh e he (by rw [hn];exact (af e he).2.1)
 intro fuel
 induction fuel with
 | zero=>
  intro D s W x hc I hA
  have bm:m=ops.size:=by
   rcases Nat.lt_or_ge m ops.size with c|c
   ·exact absurd (I.head m (Nat.le_refl _) c) (b_t hc m)
   ·omega
  have J:∀ j,j < m->D.getD j false=true:=fun j hj=>d_3 (by rw [I.size];omega) (b_t hc j);rw [I.all J];have h:=ht W x I.below (fun e he=>I.told e he (J _ (af e he).1)) (fun e E he R hf am=>hA e E he R hf am (J _ (af e he).1) (J _ (af E R).1));rw [List.drop_eq_nil_of_le (by simp;omega)] at h;refine ⟨?_,h⟩;refine List.eq_nil_iff_forall_not_mem.2 fun i hi=>?_;exact b_t hc i (mem_ready.1 hi).1
 | succ fuel ih=>
  intro D s W x hc I hA;by_cases hE:∃ L,L∈L0/\L∈Region.ready .any ops D
  ·obtain ⟨L,an,hE⟩:=hE;obtain ⟨aJ,U,ac,J⟩:=mem_ready.1 hE;have aQ:=(a6 L an).1;replace aM:=aM L an U ac;replace hQ:=hQ L an U ac;replace hY:=hY L an U ac;replace aW:=aW L an U ac
   have au:∀ t,t∈U.looksAt ops->s.tmps[t]?=(G x).tmps[t]?:=fun t ap=>
    I.slot t fun j oj hj V hd=>a_q ((aB L U aQ ac j t hj (by rw [V];exact hd)).1 ap) J
   have he:=c_b (ops:=ops) (Region.noSelect_spec aA L U · · ac) au;have aq:=b_y au;cases aP:a_O ks L with
   | none=>
    have a9:=aP
    obtain ⟨v,hv,hy⟩:=hY a9 x fun e M ap=>by
     obtain ⟨O,_,h3⟩:=af e M;exact ⟨W,I.told e M (a_q ((aB L U aQ ac e.k e.t O h3).1 (by simpa using ap)) J)⟩
    have aS:Yields P ops U v s:=by
     rcases hy with ⟨O,h2⟩|⟨O,h2⟩
     ·exact .inl ⟨aq.trans O,fun w=>by rw [he];exact h2 w⟩
     ·exact .inr ⟨aq.trans O,h2⟩
    refine wpAny_first (md:=.any) ac (Region.noSelect_spec aA) (fun c a w h=>hQ c a w v h) fuel D s W (fun j oj hj ak aI aT=>aM j oj hj ak (by
     cases ao:a_4 U j with
     | false=>rfl
     | true=>
      have O:=a_q ao J;have h2:=(b_n aI).2;rw [O] at h2;cases h2) (by
     cases ao:a_4 oj L with
     | false=>rfl
     | true=>
      unfold a_4 at ao;obtain ⟨e,ai,ab⟩:=Array.any_eq_true'.1 ao;simp only [Bool.and_eq_true,beq_iff_eq] at ab;exact absurd ab.2 (aT e ai ab.1))) hE aS ?_
    have ax:=d_P a9
    have H:∀ e,e∈ks->e.k≠L->(D.setIfInBounds L true).getD e.k false=true->D.getD e.k false=true:=fun e _ ak h=>by
     rw [getD_set_ne false (Ne.symm ak)] at h;exact h
    refine ih _ _ W x (a_2 aJ hc) ⟨by simpa using I.size,fun j hj aw=>by rw [getD_set_ne true (by omega)];exact I.head j hj aw,by rw [a_J];exact I.fsize,by rw [b_s];exact I.fdef,fun t ae=>?_,I.below,fun e M hl=>I.told e M (H e M (ax e M) hl),b_A ac J I.closed⟩ (fun e E he R hf am O h2=>hA e E he R hf am (H e he (ax e he) O) (H E R (ax E R) h2));by_cases hd:U.dst=some t
    ·rw [hv t hd,hd];exact b_F (by rw [I.fsize];exact (Array.getElem?_eq_some_iff.1 (hv t hd)).1)
    ·rw [a_7 hd];refine I.slot t fun j oj hj V aj=>?_;have:=ae j oj hj V aj;by_cases c:L=j
     ·subst c;rw [ac] at V;cases V;exact absurd aj hd
     ·rw [getD_set_ne false c] at this;exact this
   | some e=>
    obtain ⟨M,aU⟩:=c_c aP;subst aU;have aG:U.dst=some e.t:=by have:=(af e M).2.2;rw [ac] at this;exact this
    have av:∀ E,E∈ks->E.k=e.k->E=e:=fun E R hk=>by
     have O:=d_u ks a4 E R;rw [hk,aP] at O;exact (Option.some.inj O).symm
    obtain ⟨v,hv,hy⟩:=aW e aP W x fun E ad ap=>by
     obtain ⟨O,_,h3⟩:=af E ad;exact I.told E ad (a_q ((aB e.k U aQ ac E.k E.t O h3).1 (by simpa using ap)) J)
    have aS:Yields P ops U v s:=by
     rcases hy with ⟨O,h2⟩|⟨O,h2⟩
     ·exact .inl ⟨aq.trans O,fun w=>by rw [he];exact h2 w⟩
     ·exact .inr ⟨aq.trans O,h2⟩
    refine wpAny_first (md:=.any) ac (Region.noSelect_spec aA) (fun c a w h=>hQ c a w v h) fuel D s W (fun j oj hj ak aI aT=>aM j oj hj ak (by
     cases ao:a_4 U j with
     | false=>rfl
     | true=>
      have O:=a_q ao J;have h2:=(b_n aI).2;rw [O] at h2;cases h2) (by
     cases ao:a_4 oj e.k with
     | false=>rfl
     | true=>
      unfold a_4 at ao;obtain ⟨e,ai,ab⟩:=Array.any_eq_true'.1 ao;simp only [Bool.and_eq_true,beq_iff_eq] at ab;exact absurd ab.2 (aT e ai ab.1))) hE aS ?_
    have H:∀ E,E∈ks->E.k≠e.k->(D.setIfInBounds e.k true).getD E.k false=true->D.getD E.k false=true:=fun E _ ak h=>by
     rw [getD_set_ne false (Ne.symm ak)] at h;exact h
    refine ih _ _ W (upd x e.k v) (a_2 aJ hc) ⟨by simpa using I.size,fun j hj aw=>by rw [getD_set_ne true (by omega)];exact I.head j hj aw,by rw [a_J,I.fsize,ag,ag],by rw [b_s,I.fdef,hG,hG,b_N,b_N],fun t ae=>?_,I.below,fun E ad hl=>?_,b_A ac J I.closed⟩ (fun e1 e2 ai ab az ar l1 l2=>by
     have n1:e1.k≠e.k:=fun h=>(a8 _ an).1 (h ▸ az);have n2:e2.k≠e.k:=fun h=>(a8 _ an).2 (h ▸ ar);show ∀ b,aa (if e1.k=e.k then v else x e1.k)=some b->aa (if e2.k=e.k then v else x e2.k)≠some b;rw [if_neg n1,if_neg n2];exact hA e1 e2 ai ab az ar (H e1 ai n1 l1) (H e2 ab n2 l2))
    ·by_cases hd:U.dst=some t
     ·rw [hd];obtain rfl:e.t=t:=by rw [aG] at hd;exact Option.some.inj hd
      rw [bc _ e M,b_F (by rw [I.fsize,ag];exact (af e M).2.1)];show some v=some (if e.k=e.k then v else x e.k);rw [if_pos rfl]
     ·rw [a_7 hd,hG,d_5 x e.k v t ks G0 G0 rfl rfl (fun E R aE hh=>hd (by rw [aG,<- hh,av E R aE])),<- hG];refine I.slot t fun j oj hj V aj=>?_;have:=ae j oj hj V aj;by_cases c:e.k=j
      ·subst c;rw [ac] at V;cases V;exact absurd aj hd
      ·rw [getD_set_ne false c] at this;exact this
    ·by_cases c:E.k=e.k
     ·obtain rfl:=av E ad c;show E.φ (if E.k=E.k then v else x E.k) W;rw [if_pos rfl];exact hv
     ·show E.φ (if E.k=e.k then v else x E.k) W;rw [if_neg c];exact I.told E ad (H E ad c hl)
  refine ⟨fun hr=>by
   obtain ⟨i,hi⟩:=d_t hc;exact absurd hr (c_J I.size hb i hi),fun i hi=>?_⟩
  obtain ⟨aJ,o,ho,J⟩:=mem_ready.1 hi;have bd:i < ops.size:=(Array.getElem?_eq_some_iff.1 ho).1;rcases Nat.lt_or_ge i m with aH|aH
  ·have au:∀ t,t∈o.looksAt ops->s.tmps[t]?=(G x).tmps[t]?:=fun t ap=>
    I.slot t fun j oj hj V hd=>a_q ((aB i o aH ho j t hj (by rw [V];exact hd)).1 ap) J
   have he:=c_b (ops:=ops) (Region.noSelect_spec aA i o · · ho) au;have aq:=b_y au
   have ay:c_n ops ks o x (e_L W):=fun e M ap d=>by
    obtain ⟨O,_,h3⟩:=af e M;have hl:=a_q ((aB i o aH ho e.k e.t O h3).1 (by simpa using ap)) J;exact hφ e M _ _ _ (I.told e M hl) (a_X W d)
   have aO:=a5 x i o aH ho (e_L W) (d_O I.below) ay;obtain ⟨d0,aN⟩:=d_s (Below.refl W.heap.size W)
   have H:∀ e,e∈ks->e.k≠i->(D.setIfInBounds i true).getD e.k false=true->D.getD e.k false=true:=fun e _ ak h=>by
    rw [getD_set_ne false (Ne.symm ak)] at h;exact h
   unfold wpOp;simp only [ho];cases aD:a_O ks i with
   | none=>
    rw [aD] at aO;have ax:=d_P aD
    have ah:∀ (v:Value) (W':World),(∀ t,o.dst=some t->(G x).tmps[t]?=some v)->Below W.heap.size W W'->wpAny P .any ops Q fuel (D.setIfInBounds i true) (s.put o.dst v) W':=by
     intro v W' hv aF;refine ih _ _ W' x (a_2 aJ hc) ⟨by simpa using I.size,fun j hj aw=>by rw [getD_set_ne true (by omega)];exact I.head j hj aw,by rw [a_J];exact I.fsize,by rw [b_s];exact I.fdef,fun t ae=>?_,I.below.trans (aF.mono I.below.size),fun e M hl=>hφ e M _ _ _ (I.told e M (H e M (ax e M) hl)) aF,b_A ho J I.closed⟩ (fun e E he R hf am O h2=>hA e E he R hf am (H e he (ax e he) O) (H E R (ax E R) h2));by_cases hd:o.dst=some t
     ·rw [hv t hd,hd];exact b_F (by rw [I.fsize];exact (Array.getElem?_eq_some_iff.1 (hv t hd)).1)
     ·rw [a_7 hd];refine I.slot t fun j oj hj V aj=>?_;have:=ae j oj hj V aj;by_cases c:i=j
      ·subst c;rw [ho] at V;cases V;exact absurd aj hd
      ·rw [getD_set_ne false c] at this;exact this
    rcases aO with ⟨hw,v,hv,hq⟩|⟨hw,hu⟩
    ·rw [if_pos (aq.trans hw)]
     left
     have hq:=hq d0;rw [<- aN] at hq;unfold Oper.wp;unfold Oper.quietAt at hq;rw [he];generalize (execOp (G x).eval o).run P W=r at hq;cases r with
     | halt x w'=>exact hq.elim
     | ok n w'=>
      cases n <;> simp only [Oper.quietUpon] at hq <;> simp only [Oper.upon]
      case value u=>
       obtain ⟨e1,e2⟩:=hq;rw [e1,e2];exact ah v W hv (Below.refl _ _)
      case skip=>
       obtain ⟨e1,e2⟩:=hq;rw [e1,<- e2];exact ah v W hv (Below.refl _ _)
      case enter f args=>
       obtain ⟨e1,hc⟩:=hq;rw [e1];exact hc.mono fun e a7 ⟨he,d,aY⟩=>by subst he;rw [aY];exact ah v _ hv (a_X W d)
    ·rw [if_neg (by rw [aq,hw];exact Bool.false_ne_true)];exact ah undef W hu (Below.refl _ _)
   | some e=>
    rw [aD] at aO;obtain ⟨M,aU⟩:=c_c aD;subst aU;have aG:o.dst=some e.t:=by have:=(af e M).2.2;rw [ho] at this;exact this
    have av:∀ E,E∈ks->E.k=e.k->E=e:=fun E R hk=>by
     have O:=d_u ks a4 E R;rw [hk,aD] at O;exact (Option.some.inj O).symm
    have ah:∀ (v:Value) (W':World),e.φ v W'->Below W.heap.size W W'->((e.k∈fc->∀ b,aa v=some b->W.heap.size<=b∨∃ e0,e0∈ks/\e0.k∈fc/\(o.looksAt ops).contains e0.t=true/\aa (x e0.k)=some b)/\(e.k∈fa->∀ b,aa v=some b->W.heap.size<=b))->wpAny P .any ops Q fuel (D.setIfInBounds e.k true) (s.put o.dst v) W':=by
     intro v W' hv aF a3
     refine ih _ _ W' (upd x e.k v) (a_2 aJ hc) ⟨by simpa using I.size,fun j hj aw=>by rw [getD_set_ne true (by omega)];exact I.head j hj aw,by rw [a_J,I.fsize,ag,ag],by rw [b_s,I.fdef,hG,hG,b_N,b_N],fun t ae=>?_,I.below.trans (aF.mono I.below.size),fun E ad hl=>?_,b_A ho J I.closed⟩ (fun e1 e2 ai ab az ar l1 l2=>by
      show ∀ b,aa (if e1.k=e.k then v else x e1.k)=some b->aa (if e2.k=e.k then v else x e2.k)≠some b;intro b;by_cases c1:e1.k=e.k
      ·have c2:e2.k≠e.k:=fun h=>aR e1.k az (by rw [c1,<- h];exact ar);rw [if_pos c1,if_neg c2];intro h h';have p2:=a1 e2 ab (.inr ar) _ _ (I.told e2 ab (H e2 ab c2 l2)) b h';rcases a3.1 (c1 ▸ az) b h with p1|⟨e0,k0,f0,g0,h0⟩
       ·omega
       ·obtain ⟨q1,_,q3⟩:=af e0 k0;exact hA e0 e2 k0 ab f0 ar (a_q ((aB e.k o aH ho e0.k e0.t q1 q3).1 (by simpa using g0)) J) (H e2 ab c2 l2) b h0 h'
      ·rw [if_neg c1];by_cases c2:e2.k=e.k
       ·rw [if_pos c2];intro h h';have p1:=a3.2 (c2 ▸ ar) b h';have p2:=a1 e1 ai (.inl az) _ _ (I.told e1 ai (H e1 ai c1 l1)) b h;omega
       ·rw [if_neg c2];exact hA e1 e2 ai ab az ar (H e1 ai c1 l1) (H e2 ab c2 l2) b)
     ·by_cases hd:o.dst=some t
      ·rw [hd];obtain rfl:e.t=t:=by rw [aG] at hd;exact Option.some.inj hd
       rw [bc _ e M,b_F (by rw [I.fsize,ag];exact (af e M).2.1)];show some v=some (if e.k=e.k then v else x e.k);rw [if_pos rfl]
      ·rw [a_7 hd,hG,d_5 x e.k v t ks G0 G0 rfl rfl (fun E R aE hh=>hd (by rw [aG,<- hh,av E R aE])),<- hG];refine I.slot t fun j oj hj V aj=>?_;have:=ae j oj hj V aj;by_cases c:e.k=j
       ·subst c;rw [ho] at V;cases V;exact absurd aj hd
       ·rw [getD_set_ne false c] at this;exact this
     ·by_cases c:E.k=e.k
      ·obtain rfl:=av E ad c;show E.φ (if E.k=E.k then v else x E.k) W';rw [if_pos rfl];exact hv
      ·show E.φ (if E.k=e.k then v else x E.k) W';rw [if_neg c];exact hφ E ad _ _ _ (I.told E ad (H E ad c hl)) aF
    obtain ⟨hw,hy⟩:=aO;rw [if_pos (aq.trans hw)]
    left
    have hy:=hy d0;rw [<- aN] at hy
    have hy:a_j P o (G x) W fun v W'=>e.φ v W'/\((e.k∈fc->∀ b,aa v=some b->W.heap.size<=b∨∃ e0,e0∈ks/\e0.k∈fc/\(o.looksAt ops).contains e0.t=true/\aa (x e0.k)=some b)/\(e.k∈fa->∀ b,aa v=some b->W.heap.size<=b)):=by
     by_cases hf:e.k∈fc
     ·have O:=bf e M hf o ho x (e_L W) (d_O I.below) ay d0;rw [<- aN] at O;exact a_L (fun v W' h=>⟨h.1,fun _=>h.2,fun h'=>absurd h' (aR _ hf)⟩) O
     ·by_cases am:e.k∈fa
      ·have O:=bi e M am o ho x (e_L W) (d_O I.below) ay d0;rw [<- aN] at O;exact a_L (fun v W' h=>⟨h.1,fun h'=>absurd h' hf,fun _=>h.2⟩) O
      ·exact a_L (fun v W' h=>⟨h,fun h'=>absurd h' hf,fun h'=>absurd h' am⟩) hy
    unfold Oper.wp;unfold a_j at hy;rw [he];generalize bl:(execOp (G x).eval o).run P W=r at hy;cases r with
    | halt x w'=>exact hy.elim
    | ok n w'=>
     cases n <;> simp only [a_f] at hy <;> simp only [Oper.upon]
     case value u=>exact ah u w' hy.1.1 hy.2 hy.1.2
     case skip=>exact ah undef w' hy.1.1 hy.2 hy.1.2
     case enter f args=>
      obtain ⟨e1,hc⟩:=hy;rw [e1]
      exact hc.mono fun E a7 ⟨v,R,O,h2⟩=>by
       subst R;exact ah v a7 O.1 h2 O.2
  ·obtain rfl:i=m:=by
    rcases Nat.lt_or_ge m i with c|c
    ·have O:=a_q (hT i o ho m (Nat.le_refl _) c) J;have h2:=(b_n (I.head m (Nat.le_refl _) (by omega))).2;rw [O] at h2;cases h2
    ·omega
   have be:∀ d j,i - j=d->j < i->j∉L0->D.getD j false=true:=by
    intro d
    induction d using Nat.strongRecOn with
    | _ d ihd=>
     intro j hd hj aX;obtain ⟨k,ok,bn,hk,bj,aV,bb⟩:=hS bd j hj aX;rcases Nat.lt_or_ge k i with c|c
     ·have:=ihd (i - k) (by omega) k rfl c bj;exact a_q bb (I.closed k ok aV this)
     ·obtain rfl:k=i:=by omega
      rw [ho] at aV;cases aV;exact a_q bb J
   have bg:∀ L,L∈L0->D.getD L false=true:=fun L an=>by
    obtain ⟨aQ,U,ac,a0⟩:=a6 L an;rcases Bool.eq_false_or_eq_true (D.getD L false) with h|h
    ·exact h
    ·exfalso;apply hE;refine ⟨L,an,mem_ready.2 ⟨?_,U,ac,fun e he aL=>be _ e.on rfl (by have:=hb L U ac e he aL;omega) (a0 e he aL)⟩⟩;have aZ:L < D.size:=by rw [I.size];omega
     rw [Array.getD_eq_getD_getElem?,Array.getElem?_eq_getElem aZ] at h ⊢;exact h
   have hl:∀ j,j < i->D.getD j false=true:=fun j hj=>by
    by_cases c:j∈L0
    ·exact bg j c
    ·exact be _ j rfl hj c
   have hs:=I.all hl;have h:=ht W x I.below (fun e he=>I.told e he (hl _ (af e he).1)) (fun e E he R hf am=>hA e E he R hf am (hl _ (af e he).1) (hl _ (af E R).1));rw [<- hs] at h;exact (g_J (P:=P) (Q:=Q) hb hT (fuel+1) i D s W I.size (Nat.le_refl _) hc hl I.head h).2 i hi
/-- THE LAW: the first m operations read, call, or make memory; those that are told (ks) hand back what differs from world to world; told rows (fc) lie apart from blocks that are made (fa); the rest waits for all. -/
theorem r_m {id:Nat} {a:Act} {w:World} {l:List Oper} (ks:List Told) (m n:Nat) (hm:P.follows .mixedOrders=true) (hn:a.tmps.size=n) (L:l=ops.toList.take m) (V:List Nat) (hB:(i_o ops V m && c_7 ops n l)=true) (an:(V.all fun D=>j_s ops D)=true)
  (hQ:∀ D,D∈V->∀ J,ops[D]?=some J->∀ c a w v,Q (.panic c) (a.put J.dst v) w->Q (.panic c) a w) (hK:i_n ops ks m n=true) (R fa:List Nat) (H:Value->Option Nat) (am:∀ e,e∈ks->e.k∈R∨e.k∈fa->∀ v W,e.φ v W->∀ b,H v=some b->b < W.heap.size) (ac:∀ k,k∈R->k∉fa) (ai:∀ D,D∈V->D∉R/\D∉fa)
  (hφ:∀ e,e∈ks->∀ v W W',e.φ v W->Below W.heap.size W W'->e.φ v W')
  (h:∃ G:(Nat->Value)->Act,(∀ D,D∈V->∀ J,ops[D]?=some J->∀ e,a_O ks D=some e->∀ W x,(∀ O,O∈ks->(J.looksAt ops).contains O.t=true->O.φ (x O.k) W)->∃ v,e.φ v W/\Yields P ops J v (G x))/\(∀ D,D∈V->∀ J,ops[D]?=some J->a_O ks D=none->∀ x,(∀ e,e∈ks->(J.looksAt ops).contains e.t=true->∃ W,e.φ (x e.k) W)->∃ v,(∀ t,J.dst=some t->(G x).tmps[t]?=some v)/\Yields P ops J v (G x))/\(∀ x,a_9 P ops w ks x (G x) 0 l a)/\(∀ x,G x=b_k ks x (G fun _=>undef))/\(∀ e,e∈ks->e.k∈R->∀ o,ops[e.k]?=some o->∀ x F,Fam w F->c_n ops ks o x F->∀ d,a_j P o (G x) (F d) fun v W'=>e.φ v W'/\∀ b,H v=some b->(F d).heap.size<=b∨∃ e0,e0∈ks/\e0.k∈R/\(o.looksAt ops).contains e0.t=true/\H (x e0.k)=some b)/\(∀ e,e∈ks->e.k∈fa->∀ o,ops[e.k]?=some o->∀ x F,Fam w F->c_n ops ks o x F->∀ d,a_j P o (G x) (F d) fun v W'=>e.φ v W'/\∀ b,H v=some b->(F d).heap.size<=b)/\
   ∀ W x,Below w.heap.size w W->(∀ e,e∈ks->e.φ (x e.k) W)->(∀ e O,e∈ks->O∈ks->e.k∈R->O.k∈fa->∀ b,H (x e.k)=some b->H (x O.k)≠some b)->wpList P ops Q (ops.toList.drop m) (G x) W):(Code.region id ops true).wp P Q a w:=by
 obtain ⟨G,ap,hY,h1,h2,af,aj,h3⟩:=h;rw [Bool.and_eq_true] at hB;have ad:=hB.1;simp only [i_o,Bool.and_eq_true,decide_eq_true_eq] at ad;have M:=hK;simp only [i_n,Bool.and_eq_true,decide_eq_true_eq] at M
 have hk:∀ j e,a_O ks (0+j)=some e->∀ o,l[j]?=some o->o.dst=some e.t:=by
  intro j e he o I;obtain ⟨ag,U⟩:=c_c he;have:=List.all_eq_true.1 M.1.1 e ag;simp only [Bool.and_eq_true,decide_eq_true_eq,beq_iff_eq] at this;have ak:j < m:=by rw [Nat.zero_add] at U;rw [<- U];exact this.1.1
  rw [L,List.getElem?_take_of_lt ak] at I;have h4:=this.2;rw [U,Nat.zero_add,show ops[j]?=some o by simpa using I] at h4;exact h4
 have ab:∀ o,o∈l->∀ cs b,o.op≠.select cs b:=by
  intro o I cs b;rw [L] at I;obtain ⟨j,hj,e⟩:=List.getElem_of_mem (List.mem_of_mem_take I);exact Region.noSelect_spec ad.1.1.1.1.2 j o cs b (by rw [<- e];simp at hj ⊢)
 have ao:∀ x,(G x).tmps.size=n:=fun x=>by rw [(f_o l 0 a hk (h1 x)).1,hn]
 have aa:=f_o l 0 a hk (h1 fun _=>undef);refine wp_region_any hm (n_L (w:=w) (ks:=ks) (m:=m) (n:=n) (G:=G) (G0:=G fun _=>undef) V R fa H af aj am ac ai hB.1 (fun D hi J ae=>n_K ae (List.all_eq_true.1 an D hi)) hQ ap hY hK hφ h2 (ao _) (fun x i o hi I=>?_) h3 _ _ _ _ (fun _=>undef) ?_ ⟨by simp,fun j _ hj=>by simp [hj],aa.1.symm,aa.2.1.symm,fun t hc=>?_,⟨rfl,rfl,rfl,Nat.le_refl _,fun _ _=>rfl⟩,fun e he L=>?_,fun j o I L=>?_⟩ (fun e O he _ _ _ L _=>?_))
 ·have:=l_z n l 0 a hn ab hB.2 hk (h1 x) i o (by rw [L,List.getElem?_take_of_lt hi];simpa using I);rw [Nat.zero_add] at this;exact this
 ·simp
 ·refine (aa.2.2 t fun ah=>?_).symm;obtain ⟨o,I,hd⟩:=List.mem_filterMap.1 ah;rw [L] at I;obtain ⟨j,hj,e⟩:=List.getElem_of_mem I;simp at hj e;have E:j < ops.size:=by omega
  have:=hc j o (by omega) (by rw [Array.getElem?_eq_getElem E,e]) hd;simp [E] at this
 ·have:=List.all_eq_true.1 M.1.1 e he;simp only [Bool.and_eq_true,decide_eq_true_eq,beq_iff_eq] at this;have E:e.k < ops.size:=by have:=this.1.1;omega
  simp [E] at L
 ·have E:j < ops.size:=(Array.getElem?_eq_some_iff.1 I).1;simp [E] at L
 ·have:=List.all_eq_true.1 M.1.1 e he;simp only [Bool.and_eq_true,decide_eq_true_eq,beq_iff_eq] at this;have E:e.k < ops.size:=by have:=this.1.1;omega
  simp [E] at L
theorem t_q {id:Nat} {a:Act} {w:World} {l:List Oper} (ks:List Told) (m n:Nat) (hm:P.follows .mixedOrders=true) (hn:a.tmps.size=n) (V:l=ops.toList.take m) (H:List Nat) (M:(i_o ops H m && c_7 ops n l)=true) (J:(H.all fun D=>j_s ops D)=true)
  (hQ:∀ D,D∈H->∀ E,ops[D]?=some E->∀ c a w v,Q (.panic c) (a.put E.dst v) w->Q (.panic c) a w) (hK:i_n ops ks m n=true)
  (hφ:∀ e,e∈ks->∀ v W W',e.φ v W->Below W.heap.size W W'->e.φ v W')
  (h:∃ G:(Nat->Value)->Act,(∀ D,D∈H->∀ E,ops[D]?=some E->∀ e,a_O ks D=some e->∀ W x,(∀ I,I∈ks->(E.looksAt ops).contains I.t=true->I.φ (x I.k) W)->∃ v,e.φ v W/\Yields P ops E v (G x))/\(∀ D,D∈H->∀ E,ops[D]?=some E->a_O ks D=none->∀ x,(∀ e,e∈ks->(E.looksAt ops).contains e.t=true->∃ W,e.φ (x e.k) W)->∃ v,(∀ t,E.dst=some t->(G x).tmps[t]?=some v)/\Yields P ops E v (G x))/\(∀ x,a_9 P ops w ks x (G x) 0 l a)/\(∀ x,G x=b_k ks x (G fun _=>undef))/\
   ∀ W x,Below w.heap.size w W->(∀ e,e∈ks->e.φ (x e.k) W)->wpList P ops Q (ops.toList.drop m) (G x) W):(Code.region id ops true).wp P Q a w:=by
 obtain ⟨G,L,O,h1,R,U⟩:=h;exact r_m ks m n hm hn V H M J hQ hK [] [] (fun _=>none) (fun _ _ h=>absurd h (by simp)) (fun _ h=>absurd h List.not_mem_nil) (fun _ _=>⟨List.not_mem_nil,List.not_mem_nil⟩) hφ ⟨G,L,O,h1,R,fun _ _ h=>absurd h List.not_mem_nil,fun _ _ h=>absurd h List.not_mem_nil,fun W x hb hf _=>U W x hb hf⟩
theorem rel {id:Nat} {a:Act} {w:World} {l:List Oper} (ks:List Told) (m n:Nat) (M:P.follows .mixedOrders=true) (D:a.tmps.size=n) (L:l=ops.toList.take m) (E:(i_o ops [] m && c_7 ops n l)=true) (hK:i_n ops ks m n=true)
  (hφ:∀ e,e∈ks->∀ v W W',e.φ v W->Below W.heap.size W W'->e.φ v W')
  (h:∃ G:(Nat->Value)->Act,(∀ x,a_9 P ops w ks x (G x) 0 l a)/\(∀ x,G x=b_k ks x (G fun _=>undef))/\
   ∀ W x,Below w.heap.size w W->(∀ e,e∈ks->e.φ (x e.k) W)->wpList P ops Q (ops.toList.drop m) (G x) W):(Code.region id ops true).wp P Q a w:=by
 obtain ⟨G,I,H,J⟩:=h;exact t_q ks m n M D L [] E rfl (fun _ h=>absurd h List.not_mem_nil) hK hφ ⟨G,fun _ h=>absurd h List.not_mem_nil,fun _ h=>absurd h List.not_mem_nil,I,H,J⟩
theorem l_A {id:Nat} {a:Act} {w:World} {l:List Oper} (ks:List Told) (m n:Nat) (hm:P.follows .mixedOrders=true) (hn:a.tmps.size=n) (hl:l=ops.toList.take m) (D:Nat) (J:Oper) (L:ops[D]?=some J) (aa:D < m) (M:a_O ks D=none) (R:(i_o ops [D] m && c_7 ops n l)=true) (O:j_s ops D=true)
  (hQ:∀ c a w v,Q (.panic c) (a.put J.dst v) w->Q (.panic c) a w) (hK:i_n ops ks m n=true)
  (hφ:∀ e,e∈ks->∀ v W W',e.φ v W->Below W.heap.size W W'->e.φ v W')
  (h:∃ G:(Nat->Value)->Act,(∀ x,(∀ e,e∈ks->(J.looksAt ops).contains e.t=true->∃ W,e.φ (x e.k) W)->∃ v,(∀ t,J.dst=some t->(G x).tmps[t]?=some v)/\Yields P ops J v (G x))/\(∀ x,a_9 P ops w ks x (G x) 0 l a)/\(∀ x,G x=b_k ks x (G fun _=>undef))/\
   ∀ W x,Below w.heap.size w W->(∀ e,e∈ks->e.φ (x e.k) W)->wpList P ops Q (ops.toList.drop m) (G x) W):(Code.region id ops true).wp P Q a w:=by
 obtain ⟨G,U,h1,V,h3⟩:=h
 have I:∀ j,j∈[D]->∀ o,ops[j]?=some o->j=D/\o=J:=fun j H o E=>by
  have e:j=D:=by simpa using H
  subst e;rw [L] at E;exact ⟨rfl,(Option.some.inj E).symm⟩
 refine t_q ks m n hm hn hl [D] R (by simpa using O) (fun j H o E=>?_) hK hφ ⟨G,fun j H o E e he=>?_,fun j H o E _=>?_,h1,V,h3⟩
 ·obtain ⟨_,rfl⟩:=I j H o E;exact hQ
 ·obtain ⟨rfl,_⟩:=I j H o E;rw [M] at he;cases he
 ·obtain ⟨_,rfl⟩:=I j H o E;exact U
end
theorem k_w:NumT Tryz.prog 24 23 .i64 8:=⟨Tryz.underlying24,by kernel_rfl⟩
/-- A tensor: a shape, and as many numbers as that has. -/
abbrev isP (d x:List Int):Prop:=goodN (ntl d)/\x.length=a_e (ntl d)
theorem a_d {w D:World} {v:Value} {b o:Nat} (h:w.cell? ⟨b,o,none⟩=some v) (E:Below w.heap.size w D):D.cell? ⟨b,o,none⟩=some v:=a_h E h
theorem p_P (a b:Int):(a==b)=decide (a=b):=by
 by_cases h:a=b <;> simp [h]
/-- A struct of two values in a block. -/
def Box (w:World) (b:Nat) (s t:Value):Prop:=w.cell? ⟨b,0,none⟩=some s/\w.cell? ⟨b,1,none⟩=some t
theorem Box.up {w E:World} {b:Nat} {s t:Value} (h:Box w b s t) (D:Below w.heap.size w E):Box E b s t:=⟨a_d h.1 D,a_d h.2 D⟩
theorem a_C (s t:Value) (d x:List Int) (hd:RI d) (w:World) (hs:Nums .i64 w s d) (ht:Nums .i64 w t x):
  Calls Tryz.prog 97 #[.agg #[s,t]] w fun e J=>e = .returned (.bool (decide (isP d x)))/\Below w.heap.size w J:=by
 have L:Hid (Nums .i64 w s d/\RI d):=⟨hs,hd⟩
 obtain ⟨p,n,c,rfl,HA⟩:=hs.lst;obtain ⟨p2,R,c2,rfl,HB⟩:=ht.lst;have HL:Hid (x.length=R):=HB.out.1;clear hs ht hd;by_cases I:goodN (ntl d)
 ·have U:Hid (goodN (ntl d)):=I;obtain ⟨N,O⟩:∃ N,a_e (ntl d)=N:=⟨_,rfl⟩
  have er:decide (isP d x)=((R:Int)==(N:Int)):=by
   rw [p_P];exact decide_eq_decide.2 ⟨fun h=>by have:=h.2;rw [HL.out,O] at this;omega,fun h=>⟨I,by rw [HL.out,O];omega⟩⟩
  rw [er];have HN:Hid (f_a (ntl d)=N):=by show _=_;rw [b_1 I];exact O
  clear er O I;go_enter Tryz.func97,Tryz.ntmps97;go_wp2_with fail
  refine a_Q (fun D E=>?_);have M:Below w.heap.size w D:=by rw [E];go_grown
  have H:D.cell? ⟨w.heap.size,0,none⟩=some (.slice p n c)/\D.cell? ⟨w.heap.size,1,none⟩=some (.slice p2 R c2):=by rw [E];simp [go_sem]
  have x0:=H.1;have x1:=H.2;clear E H
  have V:∀ m,Calls Tryz.prog 85 #[.slice p n c] (D.drewN m) fun e J=>e = .returned (.bool true)/\J=D.drewN m:=fun m=>by
   have:=b_Y _ d L.out.2 (D.drewN m) (L.out.1.up (a_m M m));rw [decide_eq_true U.out] at this;exact this
  have cz:∀ m,Calls Tryz.prog 87 #[.slice p n c] (D.drewN m) fun e J=>e = .returned (.int .i64 (N:Int))/\J=D.drewN m:=fun m=>by
   have:=size_any _ d L.out.2 (D.drewN m) (L.out.1.up (a_m M m));rw [HN.out] at this;exact this
  go_quiet (first|exact Calls.quiet_of_same (V _)|exact Calls.quiet_of_same (cz _))
  go_wp2;go_ret;exact ⟨rfl,a_m M nq⟩
 ·rw [decide_eq_false (fun h:isP d x=>I h.1)];have U:Hid (¬ goodN (ntl d)):=I;clear I;go_enter Tryz.func97,Tryz.ntmps97;go_wp2_with fail
  refine a_Q (fun D E=>?_);have M:Below w.heap.size w D:=by rw [E];go_grown
  have H:D.cell? ⟨w.heap.size,0,none⟩=some (.slice p n c)/\D.cell? ⟨w.heap.size,1,none⟩=some (.slice p2 R c2):=by rw [E];simp [go_sem]
  have x0:=H.1;have x1:=H.2;clear E H
  have V:∀ m,Calls Tryz.prog 85 #[.slice p n c] (D.drewN m) fun e J=>e = .returned (.bool false)/\J=D.drewN m:=fun m=>by
   have:=b_Y _ d L.out.2 (D.drewN m) (L.out.1.up (a_m M m));rw [decide_eq_false U.out] at this;exact this
  go_quiet (exact Calls.quiet_of_same (V _))
  go_wp2;go_ret;exact ⟨rfl,a_m M nq⟩
theorem b_i (v:Value) (l:List Int) (J:l.length<=1073741824) (w:World) (I:Nums .i64 w v l):
  Calls Tryz.prog 75 #[v] w fun e M=>∃ L,e = .returned L/\OwnK .i64 3 M w.heap.size L l/\Below w.heap.size w M:=by
 have H:=fun (w:World) a n c=>Lib.run_eql_slice_nil (P:=Tryz.prog) w 30 3 a n c 0 0 Tryz.underlying30;have D:Hid (Nums .i64 w v l/\l.length<=1073741824):=⟨I,J⟩
 rcases I with ⟨rfl,rfl⟩|⟨ad,c,rfl,h⟩
 ·go_enter Tryz.func75,Tryz.ntmps75;go_wp2;go_ret;exact ⟨_,rfl,OwnK.nil _ _ _ _,Below.refl _ _⟩
 ·obtain ⟨n,E⟩:∃ n,l.length=n:=⟨_,rfl⟩
  have HE:Hid (l.length=n):=E;rw [E] at D ⊢;clear h J E;have R:Hid (OwnK .i64 3 (w.alloc (.cells #[] 3)) w.heap.size (.slice (some ⟨w.heap.size,0,none⟩) 0 0) []):=b_6 w [] 0 rfl (by decide);have U:Hid (Nums .i64 (w.alloc (.cells #[] 3)) (.slice (some ad) n c) l):=D.out.1.up (a_b w _);have H7:Hid (([]:List Int).length+l.length<=1073741824):=by show _<=_;rw [HE.out];simpa using D.out.2
  have O:Hid (Below w.heap.size w (w.alloc (.cells #[] 3))):=a_b w _;go_enter Tryz.func75,Tryz.ntmps75;go_wp2_with (at_builtin;refine a_E i_g (by decide) rfl (.tmp 5) (.tmp 6) rfl w.heap.size _ [] rfl R.out _ l rfl U.out H7.out (by simp) w O.out ?_;intro v0 w0 V B0)
  refine bodyPost_ret (v:=v0) (by simp [results,Tryz.results75,go_sem]) rfl ⟨_,rfl,V.out,B0⟩
theorem g_c (v:Value) (l:List Int) (J:l.length<=1073741824) (w:World) (I:Nums .i64 w v l):
  Calls Tryz.prog 91 #[v] w fun e M=>∃ L,e = .returned L/\OwnK .i64 23 M w.heap.size L l/\Below w.heap.size w M:=by
 have H:=fun (w:World) a n c=>Lib.run_eql_slice_nil (P:=Tryz.prog) w 24 23 a n c 0 0 Tryz.underlying24;have D:Hid (Nums .i64 w v l/\l.length<=1073741824):=⟨I,J⟩
 rcases I with ⟨rfl,rfl⟩|⟨ad,c,rfl,h⟩
 ·go_enter Tryz.func91,Tryz.ntmps91;go_wp2;go_ret;exact ⟨_,rfl,OwnK.nil _ _ _ _,Below.refl _ _⟩
 ·obtain ⟨n,E⟩:∃ n,l.length=n:=⟨_,rfl⟩
  have HE:Hid (l.length=n):=E;rw [E] at D ⊢;clear h J E;have R:Hid (OwnK .i64 23 (w.alloc (.cells #[] 23)) w.heap.size (.slice (some ⟨w.heap.size,0,none⟩) 0 0) []):=b_6 w [] 0 rfl (by decide);have U:Hid (Nums .i64 (w.alloc (.cells #[] 23)) (.slice (some ad) n c) l):=D.out.1.up (a_b w _);have H7:Hid (([]:List Int).length+l.length<=1073741824):=by show _<=_;rw [HE.out];simpa using D.out.2
  have O:Hid (Below w.heap.size w (w.alloc (.cells #[] 23))):=a_b w _;go_enter Tryz.func91,Tryz.ntmps91;go_wp2_with (at_builtin;refine a_E k_w (by decide) rfl (.tmp 5) (.tmp 6) rfl w.heap.size _ [] rfl R.out _ l rfl U.out H7.out (by simp) w O.out ?_;intro v0 w0 V B0)
  refine bodyPost_ret (v:=v0) (by simp [results,Tryz.results91,go_sem]) rfl ⟨_,rfl,V.out,B0⟩
end Go.Proofs.YtjlofobnmjompaaGreatDoor.Wd
namespace Go.Proofs.YtjlofobnmjompaaGreatDoor.Fx
open Go.RowKit
/-- What is beyond the ends is held there. -/
def hold (x:Int):Int:=if 9223372036854775807 < x then 9223372036854775807 else if x < -9223372036854775808 then -9223372036854775808 else x
/-- A quotient of sizes, rounded: to the nearest, of two that are as near to the even one. -/
def rq (n d:Nat):Nat:=if d < 2*(n % d)∨(2*(n % d)=d/\n / d % 2=1) then n / d+1 else n / d
def sg (b:Bool) (n:Nat):Int:=if b then -(n:Int) else n
def differ (a b:Int):Bool:=decide (a < 0) != decide (b < 0)
def mulI (a b:Int):Int:=hold (sg (differ a b) (rq (a.natAbs*b.natAbs) 4294967296))
def f_W (a:Int):Int:=if a=0 then 0 else if a < 0 then -9223372036854775808 else 9223372036854775807
def n_t (a b:Int):Int:=if b=0 then f_W a else hold (sg (differ a b) (rq (a.natAbs*4294967296) b.natAbs))
def lim (b:Bool):Int:=if b then -9223372036854775808 else 9223372036854775807
/-- A quotient and its rest, rounded. -/
def nr (q r d:Nat):Nat:=if d < 2*r∨(2*r=d/\q % 2=1) then q+1 else q
def InR (a:Int):Prop:=-9223372036854775808<=a/\a<=9223372036854775807
theorem hold_in {x:Int} (E:-9223372036854775808<=x) (D:x<=9223372036854775807):hold x=x:=by unfold hold;split <;> (try split) <;> omega
theorem f_p {x:Int} (h:9223372036854775807<=x):hold x=9223372036854775807:=by unfold hold;split <;> (try split) <;> omega
theorem f_q {x:Int} (h:x<=-9223372036854775808):hold x = -9223372036854775808:=by unfold hold;split <;> (try split) <;> omega
theorem hold_rng (x:Int):-9223372036854775808<=hold x/\hold x<=9223372036854775807:=by unfold hold;split <;> (try split) <;> omega
/-- The sign of a bitwise operation's value is its highest bit. -/
theorem f_X (v:BitVec 64):IntKind.i64.wrap (v.toNat:Int) < 0↔v.msb=true:=by
 rw [IntKind.wrap_i64,BitVec.msb_eq_decide];have:=v.isLt;simp only [decide_eq_true_eq];omega
theorem d_6 (a:Int) (E:-9223372036854775808<=a) (D:a<=9223372036854775807):(BitVec.ofInt 64 a).msb=decide (a < 0):=by
 rw [BitVec.msb_eq_decide,BitVec.toNat_ofInt];rw [Bool.eq_iff_iff];simp only [decide_eq_true_eq];omega
theorem g_d (v:BitVec 64):BitVec.ofInt 64 (IntKind.i64.wrap (v.toNat:Int))=v:=by
 apply BitVec.eq_of_toNat_eq;rw [BitVec.toNat_ofInt,IntKind.wrap_i64];have:=v.isLt;omega
theorem g_e (a b:Int):differ a b=true↔(a < 0/\0<=b)∨(0<=a/\b < 0):=by
 unfold differ;by_cases E:a < 0 <;> by_cases D:b < 0 <;> simp [E,D] <;> omega
theorem c_K (a b c d:Int) (D:InR a) (hb:InR b) (E:InR c) (H:InR d):
  bits .and .i64 (bits .xor .i64 a b) (bits .xor .i64 c d) < 0↔((a < 0/\0<=b)∨(0<=a/\b < 0))/\((c < 0/\0<=d)∨(0<=c/\d < 0)):=by
 rw [<- g_e,<- g_e];show IntKind.i64.wrap ((BitVec.ofInt 64 (IntKind.i64.wrap ((BitVec.ofInt 64 a ^^^ BitVec.ofInt 64 b).toNat:Int)) &&& BitVec.ofInt 64 (IntKind.i64.wrap ((BitVec.ofInt 64 c ^^^ BitVec.ofInt 64 d).toNat:Int))).toNat:Int) < 0↔_;rw [f_X,g_d,g_d,BitVec.msb_and,BitVec.msb_xor,BitVec.msb_xor,d_6 a D.1 D.2,d_6 b hb.1 hb.2,d_6 c E.1 E.2,d_6 d H.1 H.2];unfold differ;cases decide (a < 0) <;> cases decide (b < 0) <;> cases decide (c < 0) <;> cases decide (d < 0) <;> simp
theorem b_2 (n:Int):InR (wrap64 n):=by unfold InR wrap64;omega
theorem n_M (a b:Int) (D:InR a) (hb:InR b) (h:bits .and .i64 (bits .xor .i64 a (wrap64 (a+b))) (bits .xor .i64 b (wrap64 (a+b))) < 0):
  hold (a+b)=if a < 0 then -9223372036854775808 else 9223372036854775807:=by
 rw [c_K a _ b _ D (b_2 _) hb (b_2 _)] at h;unfold InR at D hb;unfold wrap64 at h;by_cases E:a < 0
 ·rw [if_pos E,f_q];omega
 ·rw [if_neg E,f_p];omega
theorem n_N (a b:Int) (D:InR a) (hb:InR b) (h:0<=bits .and .i64 (bits .xor .i64 a (wrap64 (a+b))) (bits .xor .i64 b (wrap64 (a+b)))):
  wrap64 (a+b)=hold (a+b):=by
 have E:=mt (c_K a _ b _ D (b_2 (a+b)) hb (b_2 (a+b))).2 (by omega);unfold InR at D hb;unfold wrap64 at E;unfold wrap64 hold
 split <;> (try split) <;> omega
theorem n_O (a b:Int) (D:InR a) (hb:InR b) (h:bits .and .i64 (bits .xor .i64 a b) (bits .xor .i64 a (wrap64 (a - b))) < 0):
  hold (a - b)=if a < 0 then -9223372036854775808 else 9223372036854775807:=by
 rw [c_K a _ a _ D hb D (b_2 _)] at h;unfold InR at D hb;unfold wrap64 at h;by_cases E:a < 0
 ·rw [if_pos E,f_q];omega
 ·rw [if_neg E,f_p];omega
theorem n_P (a b:Int) (D:InR a) (hb:InR b) (h:0<=bits .and .i64 (bits .xor .i64 a b) (bits .xor .i64 a (wrap64 (a - b)))):
  wrap64 (a - b)=hold (a - b):=by
 have E:=mt (c_K a _ a _ D hb D (b_2 (a - b))).2 (by omega);unfold InR at D hb;unfold wrap64 at E;unfold wrap64 hold
 split <;> (try split) <;> omega
theorem n_Q (n d:Nat):nr (n / d) (n % d) d=rq n d:=rfl
theorem g_L (b:Bool) (n:Nat) (h:9223372036854775807 < n):lim b=hold (sg b n):=by
 cases b
 ·rw [f_p (by unfold sg;simp;omega)];rfl
 ·rw [f_q (by unfold sg;simp;omega)];rfl
theorem p_Q (n:Nat) (h:n<=9223372036854775807):(n:Int)=hold (sg false n):=by
 rw [hold_in (by simp [sg];try omega) (by simp [sg];try omega)];rfl
theorem l_B (n:Nat) (h:n<=9223372036854775807):-(n:Int)=hold (sg true n):=by
 rw [hold_in (by simp [sg];try omega) (by simp [sg];try omega)];rfl
theorem joinN (E D:Nat) (I:E < 4294967296) (L:D < 18446744073709551616):
  bits .or .u64 ((E:Int)*4294967296) ((D:Int) / 4294967296)=((E*4294967296+D / 4294967296:Nat):Int):=by
 have H:∀ n:Int,0<=n->n < 2 ^ 64->IntKind.u64.wrap n=n:=fun n J I=>by rw [IntKind.wrap_u64];omega
 rw [bits_join .u64 64 (by decide) H 32 _ _ (by omega) (by omega) (by omega) (by omega) (by omega) (by omega)];omega
theorem s_F (a:Nat) (D:a < 18446744073709551616):bits .and .u64 (a:Int) 4294967295=((a % 4294967296:Nat):Int):=by
 have h:=bits_and_u64_nat a 4294967295 D (by omega);have e:a &&& 4294967295=a % 4294967296:=Nat.and_two_pow_sub_one_eq_mod a 32;rw [e] at h;exact h
theorem p_R (E D:Nat):(E*18446744073709551616+D) / 4294967296=E*4294967296+D / 4294967296:=by omega
theorem p_S (E D:Nat):(E*18446744073709551616+D) % 4294967296=D % 4294967296:=by omega
theorem r_n (q r d:Nat):nr q r d<=q+1:=by unfold nr;split <;> omega
theorem s_G (q r d:Nat):q<=nr q r d:=by unfold nr;split <;> omega
theorem r_o (n d:Nat):n / d<=rq n d:=by rw [<- n_Q];exact s_G _ _ _
theorem rq_le (n d:Nat):rq n d<=n / d+1:=by rw [<- n_Q];exact r_n _ _ _
theorem n_R (E D:Nat) (I:E < 2147483648) (H:D < 18446744073709551616):rq (E*18446744073709551616+D) 4294967296 < 18446744073709551616:=by
 have:=rq_le (E*18446744073709551616+D) 4294967296;omega
/-- A product of 2^95 or more is beyond the ends. -/
theorem p_T (a b:Int) (x y:Nat) (D:a.natAbs=x) (E:b.natAbs=y) (h:2147483648<=x*y / 18446744073709551616):lim (differ a b)=mulI a b:=by
 unfold mulI;rw [D,E];have:=r_o (x*y) 4294967296;exact g_L _ _ (by omega)
theorem n_S (a b:Int) (x y:Nat) (I:a.natAbs=x) (H:b.natAbs=y) (E D:Nat) (J:E=x*y / 18446744073709551616) (L:D=x*y % 18446744073709551616):
  hold (sg (differ a b) (rq (E*18446744073709551616+D) 4294967296))=mulI a b:=by
 unfold mulI;rw [I,H,show E*18446744073709551616+D=x*y by omega]
theorem l_C (a b:Int) (D:InR a) (hb:InR b) (h:bits .and .i64 (bits .xor .i64 a (wrap64 (a+b))) (bits .xor .i64 b (wrap64 (a+b))) < 0):
  lim (decide (a < 0))=hold (a+b):=by
 rw [n_M a b D hb h];unfold lim;by_cases h:a < 0 <;> simp [h]
theorem l_D (a b:Int) (D:InR a) (hb:InR b) (h:bits .and .i64 (bits .xor .i64 a b) (bits .xor .i64 a (wrap64 (a - b))) < 0):
  lim (decide (a < 0))=hold (a - b):=by
 rw [n_O a b D hb h];unfold lim;by_cases h:a < 0 <;> simp [h]
theorem n_T (a:Int) (h:¬ a=0):lim (decide (a < 0))=f_W a:=by
 unfold f_W lim;rw [if_neg h];by_cases h:a < 0 <;> simp [h]
theorem p_U (a b x y:Int) (E:(a.natAbs:Int)=x) (D:(b.natAbs:Int)=y) (hb:b≠0) (H:0 < y) (h:y<=x / 2147483648):lim (differ a b)=n_t a b:=by
 unfold n_t;rw [if_neg hb];apply g_L;have:=r_o (a.natAbs*4294967296) b.natAbs
 have I:9223372036854775808<=a.natAbs*4294967296 / b.natAbs:=by
  rw [Nat.le_div_iff_mul_le (by omega)];omega
 omega
theorem n_U (a b x y:Int) (m:Nat) (E:(a.natAbs:Int)=x) (I:(b.natAbs:Int)=y) (hb:b≠0) (J:nr ((x*4294967296) / y).toNat ((x*4294967296) % y).toNat y.toNat=m):hold (sg (differ a b) m)=n_t a b:=by
 unfold n_t;subst E I J;have c:(4294967296:Int)=((4294967296:Nat):Int):=rfl
 have H:((a.natAbs:Int)*4294967296 / (b.natAbs:Int)).toNat=a.natAbs*4294967296 / b.natAbs:=by
  rw [c,<- Int.natCast_mul,<- Int.natCast_ediv,Int.toNat_natCast]
 have D:((a.natAbs:Int)*4294967296 % (b.natAbs:Int)).toNat=a.natAbs*4294967296 % b.natAbs:=by
  rw [c,<- Int.natCast_mul,<- Int.natCast_emod,Int.toNat_natCast]
 rw [if_neg hb,<- n_Q,H,D,Int.toNat_natCast]
theorem e_S (a b:Int):InR (mulI a b):=by unfold mulI;exact hold_rng _
end Go.Proofs.YtjlofobnmjompaaGreatDoor.Fx
namespace Go.Proofs.YtjlofobnmjompaaGreatDoor.Wd
open Go.RowKit
/-- make of no number, with room. -/
theorem d_7 {P:Program} {t e:TypeId} {k:IntKind} {b:Nat} (T:NumT P t e k b) (E:b<=8) (w:World) {ops:Array Oper} {rest:List Oper} {o:Oper} {a:Act} {Q:Exit->Act->World->Prop}
  (hg:o.guard=none) (l c:Operand) (H:o.op=Op.makeSlice t l c) (M O:IntKind) (C:Int) (n:Nat) (V:a.eval l = .int M 0) (hc:a.eval c = .int O C) (hC:C=(n:Int)) (hn:n<=1073741824)
  (hK:∀ D,Hid (OwnK k e D w.heap.size (.slice (some ⟨w.heap.size,0,none⟩) 0 n) [])->Below w.heap.size w D->wpList P ops Q rest (a.put o.dst (.slice (some ⟨w.heap.size,0,none⟩) 0 n)) D):
  wpList P ops Q (o :: rest) a w:=by
 obtain ⟨i0,hi,I,J,L⟩:=g_w T;have hm:b*n<=8*1073741824:=Nat.mul_le_mul E hn;refine wpList_make_own w hg l c t H w.heap.size e i0 (.int k 0) 1 T.ht hi I J M O C n V hc hC (by rw [L];omega) (by unfold maxLen;omega) (Nat.le_refl _) ?_;intro D h1 R;exact hK D h1 (Below.grown (Below.refl _ _) R (Nat.le_refl _) (fun j U=>by cases U))
theorem l_E {d s:List Nat} (H:∀ x,x∈d->x<=4096) (E:∀ x,x∈s->x<=4096):∀ k a,a∈h_l d s k->a<=k*16777216
 | 0,a,h=>by simp [h_l] at h;omega
 | k+1,a,h=>by
  rw [h_l] at h;obtain ⟨b,hb,h⟩:=List.mem_flatMap.1 h;obtain ⟨n,I,rfl⟩:=List.mem_map.1 h;have M:=l_E H E k b hb;have L:=List.mem_range.1 I
  have O:d.getD k 0<=4096:=by
   rcases Nat.lt_or_ge k d.length with D|D
   ·rw [a_r d k 0 D];exact H _ (List.getElem_mem _)
   ·rw [g_D d k 0 D];omega
  have J:s.getD k 0<=4096:=by
   rcases Nat.lt_or_ge k s.length with D|D
   ·rw [a_r s k 0 D];exact E _ (List.getElem_mem _)
   ·rw [g_D s k 0 D];omega
  have:=Nat.mul_le_mul (show n<=4096 by omega) J;omega
theorem p_V (a b:List Nat):itl (a++b)=itl a++itl b:=by simp [itl]
theorem f_Y (g:Nat->Nat) (i:Nat):(List.range (i+1)).map g=(List.range i).map g++[g i]:=by rw [List.range_succ,List.map_append];rfl
theorem l_F (l:List Nat) (f:Nat->List Nat) (j:Nat) (h:j < l.length):(l.take (j+1)).flatMap f=(l.take j).flatMap f++f (l.getD j 0):=by
 rw [List.take_succ_eq_append_getElem h,List.flatMap_append,a_r l j 0 h];simp
theorem j_t (u v:Value) (d s:List Nat) (hd:goodN d) (hs:s.length=d.length) (hb:∀ x,x∈s->x<=4096) (w:World) (hu:Nums .i64 w u (itl d)) (hv:Nums .i64 w v (itl s)):
  Calls Tryz.prog 161 #[u,v] w fun e w'=>∃ v',e = .returned v'/\OwnK .i64 3 w' w.heap.size v' (itl (f_k d s))/\Below w.heap.size w w':=by
 obtain ⟨p,n,c,rfl,HA⟩:=hu.lst;obtain ⟨p2,V,c2,rfl,HB⟩:=hv.lst;have ab:d.length=n:=by rw [<- a_v d];exact HA.out.1
 obtain rfl:V=n:=by rw [<- ab,<- hs,<- a_v s];exact HB.out.1.symm
 have hn:V<=4:=by rw [<- ab];exact hd.1
 have aY:(V:Int)<=4:=by omega
 have R:Hid (goodN d/\s.length=d.length/\(∀ x,x∈s->x<=4096)/\d.length=V):=⟨hd,hs,hb,ab⟩
 obtain ⟨L,eL⟩:∃ L,itl (f_k d s)=L:=⟨_,rfl⟩
 have HL:Hid (itl (f_k d s)=L):=eL;have H5:Hid (OwnK .i64 3 (w.alloc (.cells #[.int .i64 0] 3)) w.heap.size (.slice (some ⟨w.heap.size,0,none⟩) 1 1) (itl (h_l d s 0))):=b_6 w [0] 1 rfl (by decide);have H8:Hid (Below w.heap.size w (w.alloc (.cells #[.int .i64 0] 3))):=a_b w _;rw [eL];clear eL hd hs hb ab hu hv;go_enter Tryz.func161,Tryz.ntmps161;go_wp2_with fail
 go_loopg [5,15] V (fun gg r i wr=>∃ (k:Nat),k<=V/\gg=V - k/\i = .int .i64 (k:Int)/\Hid (OwnK .i64 3 wr w.heap.size r (itl (h_l d s k)))/\Hid (Below w.heap.size w wr))
 case atStart=>exact ⟨0,by omega,by omega,by first|rfl|simp,H5,H8⟩
 case round=>
  obtain ⟨k,hk,hg,rfl,HO,hB⟩:=hrel;obtain ⟨J,aI⟩:∃ J:World,J=wr:=⟨_,rfl⟩
  subst aI;by_cases O:k < V
  ·have aN:(k:Int) < (V:Int):=by omega
   obtain ⟨q,o,rfl,aj⟩:=HA.out.2 k O;have E:=a_d aj hB.out;obtain ⟨q2,o2,rfl,ao⟩:=HB.out.2 k O;have H:=a_d ao hB.out;clear aj ao;obtain ⟨rp,N,rc,am,HR⟩:=HO.out.nums.lst;subst am;rw [a_P] at E H;obtain ⟨D,eD⟩:∃ D,d.getD k 0=D:=⟨_,rfl⟩
   obtain ⟨st,es⟩:∃ st,s.getD k 0=st:=⟨_,rfl⟩
   rw [eD] at E;rw [es] at H;obtain ⟨l,el⟩:∃ l,h_l d s k=l:=⟨_,rfl⟩
   have ae:=R.out.1.at k (by rw [R.out.2.2.2];exact O);rw [eD] at ae
   have ax:st<=4096:=by
    rw [<- es,a_r s k 0 (by rw [R.out.2.1,R.out.2.2.2];exact O)];exact R.out.2.2.1 _ (List.getElem_mem _)
   have hN:l.length=N:=by rw [<- el,<- a_v];exact HR.out.1
   have aE:N*D<=4096:=by
    rw [<- hN,<- el,e_R d s k (by rw [R.out.2.2.2];omega),<- eD,a_r d k 0 (by rw [R.out.2.2.2];exact O),<- b_D d k (by rw [R.out.2.2.2];exact O)];exact Nat.le_trans (d_X R.out.1.2.1 _) R.out.1.2.2
   have ap:(N:Int)*(D:Int)<=4096:=by rw [<- Int.natCast_mul];omega
   have ai:0<=(N:Int)*(D:Int):=by rw [<- Int.natCast_mul];omega
   have aR:N<=4096:=by
    have:=Nat.mul_le_mul (Nat.le_refl N) ae.1;omega
   have aJ:(N:Int)<=4096:=by omega
   have aT:1<=(D:Int)/\(D:Int)<=4096:=by omega
   have aK:0<=(st:Int)/\(st:Int)<=4096:=by omega
   obtain ⟨f,ef⟩:∃ f:Nat->List Nat,(fun a=>(List.range D).map fun n=>a+n*st)=f:=⟨_,rfl⟩
   have U:Hid ((fun a=>(List.range D).map fun n=>a+n*st)=f/\h_l d s (k+1)=l.flatMap f/\h_l d s k=l/\l.length=N):=⟨ef,by rw [h_l,el,eD,es,ef],el,hN⟩
   have aw:Hid (∀ j,j < N->l.getD j 0<=67108864):=fun j hj=>by
    have aH:j < l.length:=by rw [U.out.2.2.2];exact hj
    have ah:l.getD j 0∈h_l d s k:=by
     rw [U.out.2.2.1,a_r l j 0 aH];exact List.getElem_mem _
    have:=l_E R.out.1.le R.out.2.2.1 k _ ah;omega
   obtain ⟨M,eM⟩:∃ M:Nat,N*D=M:=⟨_,rfl⟩
   have aG:(N:Int)*(D:Int)=(M:Int):=by rw [<- Int.natCast_mul,eM]
   have hM:M<=4096:=by omega
   have HM:Hid (N*D=M):=eM;clear eD es el hN ef aE ap ai eM ae ax;go_wp2_with (at_make;refine d_7 i_g (by decide) _ rfl (.const (.int .i64 0)) (.tmp 23) rfl .i64 .i64 _ M rfl rfl rfl (by omega) ?_;intro w1 ak B1)
   rw [show ([]:List Int)=itl ((l.take 0).flatMap f) by simp [itl]] at ak;have aA:Hid (J.cell? ⟨q2,o2+k,none⟩=some (.int .i64 (st:Int))):=H;clear E H HO aG;go_wp2_with fail
   go_loopg [8,27] N (fun gg r i wz=>∃ (j:Nat),j<=N/\gg=N - j/\i = .int .i64 (j:Int)/\Hid (OwnK .i64 3 wz J.heap.size r (itl ((l.take j).flatMap f)))/\Hid (Below J.heap.size J wz))
   case atStart=>exact ⟨0,by omega,by omega,by first|rfl|simp,ak,B1⟩
   case round=>
    obtain ⟨j,hj,aU,rfl,ag,ad⟩:=hrel;obtain ⟨R1,aC⟩:∃ R1:World,R1=wr:=⟨_,rfl⟩
    subst aC;by_cases ac:j < N
    ·have aM:(j:Int) < (N:Int):=by omega
     obtain ⟨q3,o3,rfl,aq⟩:=HR.out.2 j ac;have E:=a_d aq ad.out;rw [a_P,U.out.2.2.1] at E;have ha:=aw.out j ac;obtain ⟨I,ea⟩:∃ a,l.getD j 0=a:=⟨_,rfl⟩
     rw [ea] at E ha;have aF:Hid (l.getD j 0=I):=ea;have aP:(I:Int)<=67108864:=by omega
     obtain ⟨A,eA⟩:∃ A,(l.take j).flatMap f=A:=⟨_,rfl⟩
     have hA:A.length=j*D:=by
      rw [<- eA,<- U.out.1,g_E,List.length_take,U.out.2.2.2,Nat.min_eq_left hj]
     have ar:A.length+D<=4096:=by
      have h1:=Nat.mul_le_mul (show j+1<=N by omega) (Nat.le_refl D);rw [HM.out,Nat.add_mul] at h1;omega
     have au:Hid ((l.take j).flatMap f=A/\A.length+D<=4096):=⟨eA,ar⟩
     rw [eA,show A=A++(List.range 0).map (fun n=>I+n*st) by simp] at ag;clear ea aq eA hA ar;go_wp2_with fail
     go_loopg [8,32] D (fun gg r i wy=>∃ (m:Nat),m<=D/\gg=D - m/\i = .int .i64 (m:Int)/\Hid (OwnK .i64 3 wy J.heap.size r (itl (A++(List.range m).map fun n=>I+n*st)))/\Hid (Below J.heap.size J wy))
     case atStart=>exact ⟨0,by omega,by omega,by first|rfl|simp,ag,ad⟩
     case round=>
      obtain ⟨m,hm,aW,rfl,an,af⟩:=hrel;obtain ⟨R2,ay⟩:∃ R2:World,R2=wr:=⟨_,rfl⟩
      subst ay;by_cases aX:m < D
      ·have aL:(m:Int) < (D:Int):=by omega
       have aO:=a_d aA.out af.out;obtain ⟨X,eX⟩:∃ X,I+m*st=X:=⟨_,rfl⟩
       have aD:m*st<=16777216:=Nat.mul_le_mul (show m<=4096 by omega) (show st<=4096 by omega);obtain ⟨Y,eY⟩:∃ Y,m*st=Y:=⟨_,rfl⟩
       have aV:(m:Int)*(st:Int)=(Y:Int):=by rw [<- Int.natCast_mul,eY]
       rw [eY] at eX aD;have aS:(Y:Int)<=16777216:=by omega
       have aQ:(I:Int)+(Y:Int)=(X:Int):=by omega
       have HX:Hid (I+m*st=X):=by show _=_;rw [eY];exact eX
       have H6:Hid (OwnK .i64 3 (R2.alloc (.cells #[.int .i64 (X:Int)] 3)) J.heap.size u8 (itl (A++(List.range m).map fun n=>I+n*st))):=an.out.up (a_b R2 _);have aB:Hid (Nums .i64 (R2.alloc (.cells #[.int .i64 (X:Int)] 3)) (.slice (some ⟨R2.heap.size,0,none⟩) 1 1) [(X:Int)]):=a_5 (k:=.i64) R2 [(X:Int)] 1 (0,0) rfl;have av:Hid (Below J.heap.size J (R2.alloc (.cells #[.int .i64 (X:Int)] 3))):=g_a af.out _
       have az:Hid ((itl (A++(List.range m).map fun n=>I+n*st)).length+[(X:Int)].length<=1073741824):=by
        show _<=_;rw [a_v,List.length_append,List.length_map,List.length_range,List.length_singleton];have:=au.out.2;omega
       clear eX eY;go_wp2_with (at_builtin;refine a_E i_g (by decide) rfl (.tmp 35) (.tmp 44) rfl J.heap.size _ _ rfl H6.out _ [(X:Int)] rfl aB.out az.out av.out.size J av.out ?_;intro v0 w0 H0 B0)
       have H7:Hid (OwnK .i64 3 w0 J.heap.size v0 (itl (A++(List.range (m+1)).map fun n=>I+n*st))):=by
        show OwnK _ _ _ _ _ _;rw [f_Y,<- List.append_assoc,p_V,HX.out];exact H0.out
       go_roundg (D - (m+1))
       case measure=>omega
       case rel=>exact ⟨m+1,by omega,rfl,by first|rfl|simp,H7,B0⟩
      ·obtain rfl:m=D:=by omega
       have H7:Hid (OwnK .i64 3 R2 J.heap.size u8 (itl ((l.take (j+1)).flatMap f))):=by
        show OwnK _ _ _ _ _ _;rw [l_F l f j (by rw [U.out.2.2.2];exact ac),au.out.1,aF.out,<- U.out.1];exact an.out
       go_wp2;go_roundg (N - (j+1))
       case measure=>omega
       case rel=>exact ⟨j+1,by omega,rfl,by first|rfl|simp,H7,af⟩
    ·obtain rfl:j=N:=by omega
     have H7:Hid (OwnK .i64 3 R1 w.heap.size u8 (itl (h_l d s (k+1)))):=by
      show OwnK _ _ _ _ _ _;rw [U.out.2.1];have:=ag.out;rw [List.take_of_length_le (by rw [U.out.2.2.2];exact Nat.le_refl _)] at this;exact this.low hB.out.size
     have H9:Hid (Below w.heap.size w R1):=a_c hB.out ad.out;go_wp2;go_roundg (V - (k+1))
     case measure=>omega
     case rel=>exact ⟨k+1,by omega,rfl,by first|rfl|simp,H7,H9⟩
  ·obtain rfl:k=V:=by omega
   have aa:=HO.out;have hw:=HL.out;unfold f_k at hw;rw [R.out.2.2.2] at hw;rw [hw] at aa;have U:Hid (OwnK .i64 3 J w.heap.size _ L/\Below w.heap.size w J):=⟨aa,hB.out⟩
   clear aa hw;go_wp2;go_ret;exact ⟨_,rfl,U.out⟩
theorem p_W (l:List Nat) (j x:Nat):itl (l.set j x)=(itl l).set j (x:Int):=by unfold itl;rw [List.map_set]
theorem e_s (u v:Value) (d big:List Nat) (hd:goodN d) (hb:goodN big) (hl:d.length<=big.length) (w:World) (hu:Nums .i64 w u (itl d)) (hv:Nums .i64 w v (itl big)):
  Calls Tryz.prog 133 #[u,v] w fun e w'=>∃ v',e = .returned v'/\OwnK .i64 3 w' w.heap.size v' (itl (b_T d big))/\Below w.heap.size w w':=by
 have cs:∀ W,Below w.heap.size w W->Calls Tryz.prog 160 #[u] W fun e w'=>∃ v',e = .returned v'/\OwnK .i64 3 w' W.heap.size v' (itl (a_x d))/\Below W.heap.size W w':=fun W hW=>by
  have:=f_d u (itl d) (j_j hd.le) W (hu.up hW);rw [show c_G (itl d)=itl (a_x d) by unfold c_G;rw [a_p,if_pos hd]] at this;exact this
 have aj:Hid (Nums .i64 w u (itl d)/\Nums .i64 w v (itl big)):=⟨hu,hv⟩
 obtain ⟨p,n,c,rfl,HA⟩:=hu.lst;obtain ⟨p2,E,c2,rfl,HB⟩:=hv.lst;have M:d.length=n:=by rw [<- a_v d];exact HA.out.1
 have I:big.length=E:=by rw [<- a_v big];exact HB.out.1
 have hn:n<=E:=by omega
 have aE:E<=4:=by rw [<- I];exact hb.1
 have aD:(n:Int)<=(E:Int):=by omega
 have aq:(E:Int)<=4:=by omega
 have J:Hid (goodN d/\goodN big/\d.length=n/\big.length=E):=⟨hd,hb,M,I⟩
 obtain ⟨L,eL⟩:∃ L,itl (b_T d big)=L:=⟨_,rfl⟩
 have HL:Hid (itl (f_k big (b_Z d E n))=L):=by show _=_;rw [<- eL,<- I,<- M];rfl
 obtain ⟨V,ay⟩:∃ V,E - n=V:=⟨_,rfl⟩
 have au:(E:Int) - (n:Int)=(V:Int):=by omega
 have aw:V<=4:=by omega
 rw [eL];clear eL hd hb hl M I hu hv;go_enter Tryz.func133,Tryz.ntmps133;go_wp2_with (at_make;refine a_y i_g (by decide) _ rfl (.tmp 10) (.tmp 10) rfl .i64 .i64 E E E rfl rfl rfl rfl (by omega) w.heap.size w (Nat.le_refl _) (Below.refl _ _) ?_;intro w1 HO B0 B1;clear B0)
 rw [show List.replicate E (0:Int)=itl (b_Z d E 0) by unfold itl b_Z;rw [List.map_replicate];rfl] at HO;refine (cs w1 B1).mono ?_;rintro e w2 ⟨vs,rfl,U,R⟩;obtain ⟨p3,H,c3,rfl,af⟩:=U.nums.lst;obtain rfl:H=n:=by rw [<- af.out.1,a_v,b_Q,J.out.2.2.1]
 have HS:Hid (OwnK .i64 3 w2 w1.heap.size (.slice p3 H c3) (itl (a_x d))):=U;have am:Hid (OwnK .i64 3 w2 w.heap.size (.slice (some ⟨w.heap.size,0,none⟩) E E) (itl (b_Z d E 0))):=HO.out.up R;have ap:Hid (Below w.heap.size w w2):=a_c B1 R;have Hg:Hid (w.heap.size < w1.heap.size):=HO.out.size;clear U R HO B1 cs af;go_wp2_with fail
 go_loopg [20] H (fun gg i wr=>∃ (k:Nat),k<=H/\gg=H - k/\i = .int .i64 (k:Int)/\Hid (OwnK .i64 3 wr w.heap.size (.slice (some ⟨w.heap.size,0,none⟩) E E) (itl (b_Z d E k)))/\Hid (Below w.heap.size w wr)/\Hid (Stay w.heap.size w2 wr))
 case atStart=>exact ⟨0,by omega,by omega,by first|rfl|simp,am,ap,Stay.refl _ _⟩
 case round=>
  obtain ⟨k,hk,hg,rfl,HR,hB,hS⟩:=hrel;by_cases O:k < H
  ·have aC:(k:Int) < (H:Int):=by omega
   have an:=(HS.out.nums.stay hS.out (HS.out.off Hg.out)).lst;obtain ⟨p4,n4,c4,e4,ad⟩:=an;cases e4;obtain ⟨q,o,rfl,ae⟩:=ad.out.2 k O;obtain ⟨q2,o2,rfl,ag⟩:=HA.out.2 k O;have ac:=a_d ag hB.out;rw [a_P] at ae ac;obtain ⟨st,es⟩:∃ st,(a_x d).getD k 0=st:=⟨_,rfl⟩
   obtain ⟨D,eD⟩:∃ D,d.getD k 0=D:=⟨_,rfl⟩
   rw [es] at ae;rw [eD] at ac;have HE:Hid ((a_x d).getD k 0=st/\d.getD k 0=D):=⟨es,eD⟩
   have aa:=e_q J.out.1 k;rw [es] at aa;have ar:(st:Int)<=4096:=by omega
   have hD:=J.out.1.at k (by rw [J.out.2.2.1];exact O);rw [eD] at hD;have az:1<=(D:Int)/\(D:Int)<=4096:=by omega
   clear es eD ag ad aa;by_cases h1:1 < D
   ·have ak:(1:Int) < (D:Int):=by omega
    obtain ⟨j,ej⟩:∃ j,V+k=j:=⟨_,rfl⟩
    have aA:(V:Int)+(k:Int)=(j:Int):=by omega
    have hj:j < E:=by omega
    have aB:(j:Int) < (E:Int):=by omega
    have Hj:Hid (E - d.length+k=j):=by show _=_;rw [J.out.2.2.1];omega
    obtain ⟨av,ax⟩:=HR.out.cell (by rw [a_v,c_a]) j hj
    have H2:Hid (OwnK .i64 3 (wr.setCell ⟨w.heap.size,j,none⟩ (.int .i64 (st:Int))) w.heap.size (.slice (some ⟨w.heap.size,0,none⟩) E E) (itl (b_Z d E (k+1)))):=by
     have:=HR.out.store (by rw [a_v,c_a]) j (st:Int);rw [<- p_W,<- HE.out.1,<- Hj.out] at this;show OwnK _ _ _ _ _ _;rw [b_Z,if_pos (by rw [HE.out.2];exact h1),<- HE.out.1,<- Hj.out];exact this
    have ao:Hid (Below w.heap.size w (wr.setCell ⟨w.heap.size,j,none⟩ (.int .i64 (st:Int)))):=hB.out.setCell (p:=⟨w.heap.size,j,none⟩) (Nat.le_refl _) _;have ai:Hid (Stay w.heap.size w2 (wr.setCell ⟨w.heap.size,j,none⟩ (.int .i64 (st:Int)))):=hS.out.set _ _;clear ej;go_wp2;go_roundg (H - (k+1))
    case measure=>omega
    case rel=>exact ⟨k+1,by omega,rfl,by first|rfl|simp,H2,ao,ai⟩
   ·have ak:(D:Int)<=1:=by omega
    have H2:Hid (OwnK .i64 3 wr w.heap.size (.slice (some ⟨w.heap.size,0,none⟩) E E) (itl (b_Z d E (k+1)))):=by
     show OwnK _ _ _ _ _ _;rw [b_Z,if_neg (by rw [HE.out.2];exact h1)];exact HR.out
    go_wp2;go_roundg (H - (k+1))
    case measure=>omega
    case rel=>exact ⟨k+1,by omega,rfl,by first|rfl|simp,H2,hB,hS⟩
  ·obtain rfl:k=H:=by omega
   have cw:=j_t _ _ big (b_Z d E k) J.out.2.1 (by rw [c_a,J.out.2.2.2]) (g_G J.out.1 E k) wr (aj.out.2.up hB.out) HR.out.nums;rw [HL.out] at cw;go_wp2_with fail
   refine cw.mono ?_;rintro e w5 ⟨v5,rfl,h5,ab⟩;have HF:Hid (OwnK .i64 3 w5 w.heap.size v5 L/\Below w.heap.size w w5):=⟨h5.low hB.out.size,a_c hB.out ab⟩
   clear h5 ab cw;go_wp2;go_ret;exact ⟨_,rfl,HF.out⟩
theorem a_a {W:World} {b o:Nat} {v:Value} (h:W.cell? ⟨b,o,none⟩=some v):b < W.heap.size:=c_u (a:=⟨b,o,none⟩) h
/-- A struct of two values in a block, that may be stored into. -/
def Cel (W:World) (b:Nat) (s t:Value):Prop:=W.cell? ⟨b,0,none⟩=some s/\W.cell? ⟨b,1,none⟩=some t/\W.frozen? ⟨b,0,none⟩=false/\W.frozen? ⟨b,1,none⟩=false
theorem Cel.up {W W':World} {b:Nat} {s t:Value} (h:Cel W b s t) (D:Below W.heap.size W W'):Cel W' b s t:=by
 have hb:=a_a h.1;refine ⟨a_d h.1 D,a_d h.2.1 D,?_,?_⟩
 ·rw [D.frozen (p:=⟨b,0,none⟩) hb];exact h.2.2.1
 ·rw [D.frozen (p:=⟨b,1,none⟩) hb];exact h.2.2.2
theorem Cel.stay {g:Nat} {W W':World} {b:Nat} {s t:Value} (h:Cel W b s t) (D:Stay g W W') (E:b≠g):Cel W' b s t:=by
 have hb:=a_a h.1;refine ⟨D.cell h.1 E,D.cell h.2.1 E,?_,?_⟩
 ·rw [D.frozen hb E];exact h.2.2.1
 ·rw [D.frozen hb E];exact h.2.2.2
theorem a_F {V D:World} {b:Nat} {s t:Value} (h:V=D) (E:V.cell? ⟨b,0,none⟩=some s/\V.cell? ⟨b,1,none⟩=some t/\V.frozen? ⟨b,0,none⟩=false/\V.frozen? ⟨b,1,none⟩=false):Hid (Cel D b s t):=h ▸ E
theorem b_W {w V D:World} (h:V=D) (E:Below w.heap.size w V):Hid (Below w.heap.size w D):=h ▸ E
theorem j_u {W:World} {p:Addr} {x v:Value} (h:W.cell? p=some v):(W.setCell p x).cell? p=some x:=World.cell?_setCell_same _ _ _ h
theorem l_G {W:World} {b i j:Nat} {x:Value} (D:j≠i):(W.setCell ⟨b,i,none⟩ x).cell? ⟨b,j,none⟩=W.cell? ⟨b,j,none⟩:=World.cell?_setCell_other _ _ _ _ (by simp;try omega)
/-- The struct, stored. -/
abbrev set2 (W:World) (b:Nat) (s t:Value):World:=(W.setCell ⟨b,0,none⟩ s).setCell ⟨b,1,none⟩ t
theorem Cel.set {W:World} {b:Nat} {s t:Value} (h:Cel W b s t) (E D:Value):Cel (set2 W b E D) b E D:=by
 refine ⟨?_,?_,?_,?_⟩
 ·show ((W.setCell ⟨b,0,none⟩ E).setCell ⟨b,1,none⟩ D).cell? ⟨b,0,none⟩=_;rw [l_G (by omega)];exact j_u h.1
 ·exact j_u (by rw [l_G (by omega)];exact h.2.1)
 ·simp [h.2.2.1]
 ·simp [h.2.2.2]
theorem Stay.set2 {g:Nat} (W:World) (s t:Value):Stay g W (set2 W g s t):=((Stay.refl g W).set 0 s).set 1 t
theorem OwnK.off_new {k:IntKind} {e:TypeId} {W:World} {B g:Nat} {v:Value} {l:List Int} (h:OwnK k e W B v l) (L:W.heap.size<=g):Off g v:=by
 intro M n c D;rcases h.2 with ⟨E,_⟩|⟨q,cap,I,E,J,H,_⟩
 ·rw [E] at D;cases D
 ·rw [E] at D;cases D
  have:q < W.heap.size:=by
   rcases Nat.lt_or_ge q W.heap.size with h|h
   ·exact h
   ·rw [Array.getElem?_eq_none h] at H;cases H
  show q≠g;omega
/-- What a call answers: a tensor in memory of its own. -/
def TRes (W:World) (B:Nat) (v:Value) (D X:List Int):Prop:=∃ s t,v = .agg #[s,t]/\OwnK .i64 3 W B s D/\OwnK .i64 23 W B t X
theorem TRes.none (W:World) (B:Nat):TRes W B (.agg #[.slice none 0 0,.slice none 0 0]) [] []:=⟨_,_,rfl,OwnK.nil _ _ _ _,OwnK.nil _ _ _ _⟩
theorem TRes.up {W W':World} {B:Nat} {v:Value} {D X:List Int} (h:TRes W B v D X) (E:Below W.heap.size W W'):TRes W' B v D X:=by
 obtain ⟨s,t,e,I,H⟩:=h;exact ⟨s,t,e,I.up E,H.up E⟩
theorem TRes.low {W:World} {B E:Nat} {v:Value} {D X:List Int} (h:TRes W B v D X) (H:E<=B):TRes W E v D X:=by
 obtain ⟨s,t,e,J,I⟩:=h;exact ⟨s,t,e,J.low H,I.low H⟩
theorem TRes.set {W:World} {B b:Nat} {s t:Value} {D X:List Int} (H:OwnK .i64 3 W B s D) (E:OwnK .i64 23 W B t X) (hb:b < B):TRes (set2 W b s t) B (.agg #[s,t]) D X:=
 ⟨s,t,rfl,H.stay (Stay.set2 W s t) (H.off hb),E.stay (Stay.set2 W s t) (E.off hb)⟩
theorem a_k {w W:World} (h:Below w.heap.size w W) (b:Nat) (hb:w.heap.size<=b) (x y:Value):Below w.heap.size w (set2 W b x y):=a_8 h b hb x y
theorem h_m {w E W:World} {b:Nat} {s t L R:Value} {D X:List Int} (O:Hid (Cel E b L R)) (I:Hid (Below w.heap.size w E)) (M:Below E.heap.size E W) (U:OwnK .i64 3 W E.heap.size s D) (V:OwnK .i64 23 W E.heap.size t X) (hb:w.heap.size<=b):Hid (TRes (set2 W b s t) w.heap.size (.agg #[s,t]) D X/\Below w.heap.size w (set2 W b s t))/\W.cell? ⟨b,0,none⟩=some L/\W.cell? ⟨b,1,none⟩=some R/\W.frozen? ⟨b,0,none⟩=false/\W.frozen? ⟨b,1,none⟩=false/\(set2 W b s t).cell? ⟨b,0,none⟩=some s/\(set2 W b s t).cell? ⟨b,1,none⟩=some t:=by
 have H:=O.out.up M;have J:=H.set s t;exact ⟨⟨(TRes.set U V (a_a O.out.1)).low I.out.size,a_k (a_c I.out M) _ hb _ _⟩,H.1,H.2.1,H.2.2.1,H.2.2.2,J.1,J.2.1⟩
/-- Both spread and reckoned, number by number. -/
def b_C (d x d' y:List Int):Int:=if isP d x/\isP d' y then b_x d d' else 1
def b_J (d x d' y:List Int):List Int:=if isP d x/\isP d' y then b_S d d' else []
def b_U (op:Int->Int->Int) (d x d' y:List Int):List Int:=
 if (isP d x/\isP d' y)/\b_x d d'=0 then (List.range (a_e (ntl (b_S d d')))).map fun i=>op (x.getD (b_R (ntl d) (ntl (b_S d d')) i) 0) (y.getD (b_R (ntl d') (ntl (b_S d d')) i) 0) else []
theorem f_r {op:Int->Int->Int} {d x d' y:List Int} (h:¬ (isP d x/\isP d' y)):b_C d x d' y=1/\b_J d x d' y = []/\b_U op d x d' y = []:=⟨if_neg h,if_neg h,if_neg fun D=>h D.1⟩
theorem l_H {a b:List Int} (h:b_x a b≠0):b_S a b = []:=by
 unfold b_S;rw [if_neg];rintro ⟨H,I,E,D⟩;apply h;unfold b_x;rw [if_pos ⟨H,I⟩,if_pos E,if_pos D]
theorem j_v {op:Int->Int->Int} {d x d' y:List Int} (h:isP d x/\isP d' y) (D:b_x d d'≠0):b_C d x d' y=b_x d d'/\b_J d x d' y = []/\b_U op d x d' y = []:=
 ⟨if_pos h,by unfold b_J;rw [if_pos h];exact l_H D,if_neg fun E=>D E.2⟩
/-- Both fit: what stands where. -/
structure Joint (d x d' y:List Int) (a b J:List Nat):Prop where
 da:d=itl a
 db:d'=itl b
 ga:goodN a
 gb:goodN b
 gJ:goodN J
 jn:b_S d d'=itl J
 je:b_x d d'=0
 lx:x.length=a_e a
 ly:y.length=a_e b
 fa:b_X a J
 ja:joinN a J=J
 fb:b_X b J
 jb:joinN b J=J
theorem n_V {d x d' y:List Int} (h:isP d x/\isP d' y) (L:b_x d d'=0):∃ a b J,Joint d x d' y a b J:=by
 obtain ⟨U,R,H,I⟩:=f_9 L;obtain ⟨a,E,rfl⟩:=b_m U;obtain ⟨b,D,rfl⟩:=b_m R;rw [a_p,a_p] at H I;have V:=(b_u E D H I).1;have O:=h.1.2;have M:=h.2.2;rw [a_p] at O M;refine ⟨a,b,joinN a b,rfl,rfl,E,D,I,V,L,O,M,?_,?_,?_,?_⟩
 ·rw [e_p];exact e_7 E.2.1 D.2.1 H
 ·rw [b_0,e_8]
 ·rw [e_p,b_0 a b];exact e_7 D.2.1 E.2.1 ((e_p _ _).1 H)
 ·rw [b_0 b,b_0 a b,e_8]
theorem Joint.E {op:Int->Int->Int} {d x d' y:List Int} {a b J:List Nat} (h:Joint d x d' y a b J):b_C d x d' y=0/\b_J d x d' y=itl J/\b_U op d x d' y=(List.range (a_e J)).map fun i=>op (x.getD (b_R a J i) 0) (y.getD (b_R b J i) 0):=by
 have D:isP d x/\isP d' y:=by
  rw [h.da,h.db];unfold isP;rw [a_p,a_p];exact ⟨⟨h.ga,h.lx⟩,h.gb,h.ly⟩
 refine ⟨?_,?_,?_⟩
 ·unfold b_C;rw [if_pos D];exact h.je
 ·unfold b_J;rw [if_pos D];exact h.jn
 ·unfold b_U;rw [if_pos ⟨D,h.je⟩,h.jn,a_p];rw [h.da,h.db,a_p,a_p]
/-- A tensor that can be read. -/
def Tn (D X:List Int) (v:Value) (W:World):Prop:=∃ p n c p2 n2 c2,v = .agg #[.slice p n c,.slice p2 n2 c2]/\Nums .i64 W (.slice p n c) D/\Nums .i64 W (.slice p2 n2 c2) X
theorem Tn.up {D X:List Int} {v:Value} {W W':World} (h:Tn D X v W) (E:Below W.heap.size W W'):Tn D X v W':=by
 obtain ⟨p,n,c,J,M,H,e,L,I⟩:=h;exact ⟨p,n,c,J,M,H,e,L.up E,I.up E⟩
theorem RowN.riI {w:World} {p:Option Addr} {n c:Nat} {z:Nat->Int} (h:RowN .i64 w p n c z):RI (l_c n z):=fun y D=>bounds_i64 (h.wf y D)
/-- A cell for a tensor, newly made. -/
def NewC (B:Nat) (v:Value) (W:World):Prop:=∃ b,v = .pointer (some ⟨b,0,none⟩)/\W.heap[b]?=some (.cells #[.slice none 0 0,.slice none 0 0] 64 (0,0))/\B<=b
theorem a_i {W:World} {b:Nat} {o:Obj} (h:W.heap[b]?=some o):b < W.heap.size:=by
 rcases Nat.lt_or_ge b W.heap.size with D|D
 ·exact D
 ·rw [Array.getElem?_eq_none D] at h;cases h
theorem NewC.up {B:Nat} {v:Value} {W W':World} (h:NewC B v W) (E:Below W.heap.size W W'):NewC B v W':=by
 obtain ⟨b,e,D,H⟩:=h;exact ⟨b,e,by rw [E.block b (a_i D)];exact D,H⟩
theorem c_o {W:World} {b:Nat} {s t:Value} {e:TypeId} (h:W.heap[b]?=some (.cells #[s,t] e (0,0))):Cel W b s t:=by
 refine ⟨?_,?_,?_,?_⟩
 ·unfold World.cell?;simp [h]
 ·unfold World.cell?;simp [h]
 ·unfold World.frozen?;simp [h]
 ·unfold World.frozen?;simp [h]
theorem OwnK.off_type {k:IntKind} {e J:TypeId} {W:World} {B b:Nat} {v:Value} {l:List Int} {L:Array Value} {O:Nat×Nat} (h:OwnK k e W B v l) (hb:W.heap[b]?=some (.cells L J O)) (E:e≠J):Off b v:=by
 intro V n c D;rcases h.2 with ⟨I,_⟩|⟨q,cap,M,I,U,R,_⟩
 ·rw [I] at D;cases D
 ·rw [I] at D;cases D;intro H;have H:q=b:=H;subst H;rw [R] at hb
  injection hb with hb
  injection hb with _ h5 _
  exact E h5
/-- A tensor's copy. -/
def OwnT (B:Nat) (D X:List Int) (v:Value) (W:World):Prop:=∃ p n c p2 n2 c2,v = .agg #[.slice p n c,.slice p2 n2 c2]/\OwnK .i64 3 W B (.slice p n c) D/\OwnK .i64 23 W B (.slice p2 n2 c2) X
theorem OwnT.up {B:Nat} {D X:List Int} {v:Value} {W W':World} (h:OwnT B D X v W) (E:Below W.heap.size W W'):OwnT B D X v W':=by
 obtain ⟨p,n,c,J,M,H,e,L,I⟩:=h;exact ⟨p,n,c,J,M,H,e,L.up E,I.up E⟩
/-- A literal's row. -/
def LitN (l:List Int) (v:Value) (W:World):Prop:=∃ g,v = .slice (some ⟨g,0,none⟩) l.length l.length/\Nums .i64 W v l
theorem LitN.up {l:List Int} {v:Value} {W W':World} (h:LitN l v W) (D:Below W.heap.size W W'):LitN l v W':=by
 obtain ⟨g,e,E⟩:=h;exact ⟨g,e,E.up D⟩
/-- A tensor's two literals. -/
def TupP (B:Nat) (D X:List Int) (E:Int) (v:Value) (W:World):Prop:=∃ u,v = .tuple #[u,.int .i64 E]/\OwnT B D X u W
theorem TupP.up {B:Nat} {D X:List Int} {E:Int} {v:Value} {W W':World} (h:TupP B D X E v W) (H:Below W.heap.size W W'):TupP B D X E v W':=by
 obtain ⟨u,e,I⟩:=h;exact ⟨u,e,I.up H⟩
theorem TRes.own {W:World} {B:Nat} {v:Value} {D X:List Int} (h:TRes W B v D X):OwnT B D X v W:=by
 obtain ⟨s,t,rfl,H,E⟩:=h;obtain ⟨p,n,c,rfl,_⟩:=H.nums.lst;obtain ⟨J,L,I,rfl,_⟩:=E.nums.lst;exact ⟨p,n,c,J,L,I,rfl,H,E⟩
/-- A slice has room for what it holds. -/
theorem OwnK.cap {k:IntKind} {e:TypeId} {W:World} {B n c:Nat} {p:Option Addr} {l:List Int} (h:OwnK k e W B (.slice p n c) l):n<=c:=by
 rcases h.2 with ⟨D,_⟩|⟨q,cap,H,D,I,J,E,_⟩
 ·cases D;exact Nat.le_refl _
 ·cases D;exact E
theorem OwnK.obj {k:IntKind} {e:TypeId} {W:World} {B g n c:Nat} {l:List Int} (h:OwnK k e W B (.slice (some ⟨g,0,none⟩) n c) l):∃ E I,W.heap[g]?=some (.cells E e I):=by
 rcases h.2 with ⟨D,_⟩|⟨q,cap,H,D,L,J,_⟩
 ·cases D
 ·cases D;exact ⟨_,_,J⟩
theorem s_y {D E:Nat}:goodN (ntl [(D:Int),(E:Int)])↔1<=D/\1<=E/\D*E<=4096:=by
 have H:ntl [(D:Int),(E:Int)] = [D,E]:=a_p [D,E];rw [H];constructor
 ·intro h;exact ⟨h.2.1 _ (by simp),h.2.1 _ (by simp),by have:=h.2.2;simpa [a_e] using this⟩
 ·rintro ⟨a,b,c⟩;exact ⟨by simp,fun y I=>by simp at I;omega,by simpa [a_e] using c⟩
theorem j_w {a b:Nat} (E:a<=4096) (hb:b<=4096):RI [(a:Int),(b:Int)]:=fun q D=>by
 simp at D;omega
theorem c_L {a b:Nat} (h:a*b<=4096) (D:1<=a) (hb:1<=b):a<=4096/\b<=4096:=⟨by have:=Nat.mul_le_mul_left a hb;omega,by have:=Nat.mul_le_mul_right b D;omega⟩
/-- A tensor that can be read, with room for its numbers. -/
def TnC (D X:List Int) (v:Value) (W:World):Prop:=∃ p n c p2 n2 c2,v = .agg #[.slice p n c,.slice p2 n2 c2]/\Nums .i64 W (.slice p n c) D/\Nums .i64 W (.slice p2 n2 c2) X/\n2<=c2
theorem TnC.up {D X:List Int} {v:Value} {W W':World} (h:TnC D X v W) (E:Below W.heap.size W W'):TnC D X v W':=by
 obtain ⟨p,n,c,J,O,H,e,L,I,M⟩:=h;exact ⟨p,n,c,J,O,H,e,L.up E,I.up E,M⟩
theorem a_Y {d x:List Int} (h:isP d x) (J:d.length=2):∃ D E:Nat,d = [(D:Int),(E:Int)]/\x.length=D*E/\1<=D/\1<=E/\D*E<=4096:=by
 obtain ⟨a,I,rfl⟩:=b_m h.1;have H:=h.2;rw [a_p] at H;rw [a_v] at J
 match a,J with
 | [D,E],_=>
  have e:a_e [D,E]=D*E:=by simp [a_e]
  rw [e] at H;refine ⟨D,E,rfl,H,I.2.1 _ (by simp),I.2.1 _ (by simp),?_⟩;have:=I.2.2;rw [e] at this;exact this
theorem c_d {d x:List Int} (h:isP d x) (L:d.length=3):∃ D E H:Nat,d = [(D:Int),(E:Int),(H:Int)]/\x.length=D*E*H/\1<=D/\1<=E/\1<=H/\D*E*H<=4096:=by
 obtain ⟨a,I,rfl⟩:=b_m h.1;have J:=h.2;rw [a_p] at J;rw [a_v] at L
 match a,L with
 | [D,E,H],_=>
  have e:a_e [D,E,H]=D*E*H:=by simp [a_e,Nat.mul_assoc]
  rw [e] at J;refine ⟨D,E,H,rfl,J,I.2.1 _ (by simp),I.2.1 _ (by simp),I.2.1 _ (by simp),?_⟩;have:=I.2.2;rw [e] at this;exact this
theorem r_a {D E H:Nat}:goodN (ntl [(D:Int),(E:Int),(H:Int)])↔1<=D/\1<=E/\1<=H/\D*E*H<=4096:=by
 have I:ntl [(D:Int),(E:Int),(H:Int)] = [D,E,H]:=a_p [D,E,H];rw [I];constructor
 ·intro h;exact ⟨h.2.1 _ (by simp),h.2.1 _ (by simp),h.2.1 _ (by simp),by have:=h.2.2;simpa [a_e,Nat.mul_assoc] using this⟩
 ·rintro ⟨a,b,c,e⟩;exact ⟨by simp,fun y J=>by simp at J;omega,by simpa [a_e,Nat.mul_assoc] using e⟩
theorem j_x {a b c:Nat} (E:a<=4096) (hb:b<=4096) (H:c<=4096):RI [(a:Int),(b:Int),(c:Int)]:=fun q D=>by
 simp at D;omega
theorem c_k (a b:Nat):a_e (ntl [(a:Int),(b:Int)])=a*b:=by rw [show ntl [(a:Int),(b:Int)] = [a,b] from a_p [a,b]];simp [a_e]
theorem e_t (a b c:Nat):a_e (ntl [(a:Int),(b:Int),(c:Int)])=a*b*c:=by rw [show ntl [(a:Int),(b:Int),(c:Int)] = [a,b,c] from a_p [a,b,c]];simp [a_e,Nat.mul_assoc]
end Go.Proofs.YtjlofobnmjompaaGreatDoor.Wd
namespace Go.Proofs.YtjlofobnmjompaaGreatDoor.Wd
open Go.RowKit Fx
/-- Blocks of other types than these stand. -/
def Only (S:List TypeId) (W W':World):Prop:=W.heap.size<=W'.heap.size/\∀ k,k < W.heap.size->(∀ cs e fz,W.heap[k]?=some (.cells cs e fz)->e∉S)->W'.heap[k]?=W.heap[k]?
theorem Only.refl (S:List TypeId) (W:World):Only S W W:=⟨Nat.le_refl _,fun _ _ _=>rfl⟩
theorem Only.trans {S:List TypeId} {a b c:World} (h:Only S a b) (H:Only S b c):Only S a c:=⟨Nat.le_trans h.1 H.1,fun k E D=>by
 have e:=h.2 k E D;rw [H.2 k (Nat.lt_of_lt_of_le E h.1) (by rw [e];exact D),e]⟩
theorem Only.of {S:List TypeId} {a b:World} (h:Below a.heap.size a b):Only S a b:=⟨h.size,fun k D _=>h.block k D⟩
theorem Only.up {S:List TypeId} {a b c:World} (h:Only S a b) (D:Below b.heap.size b c):Only S a c:=h.trans (Only.of D)
theorem Only.more {S D:List TypeId} {a b:World} (h:Only S a b) (L:∀ e,e∈S->e∈D):Only D a b:=⟨h.1,fun k J I=>h.2 k J fun H e E he M=>I H e E he (L e M)⟩
theorem Only.keep {S:List TypeId} {a b:World} (h:Only S a b) {k:Nat} {H:Array Value} {e:TypeId} {E:Nat×Nat} (D:a.heap[k]?=some (.cells H e E)) (he:e∉S):b.heap[k]?=some (.cells H e E):=by
 rw [h.2 k (a_i D) (fun L M J I=>by rw [D] at I;cases I;exact he)];exact D
theorem Only.grown {S:List TypeId} {a b:World} {D:Option Nat} (h:a.grownBy b D) (I:∀ k,D=some k->∃ H e E,a.heap[k]?=some (.cells H e E)/\e∈S):Only S a b:=⟨h.size,fun k M J=>h.block k M fun e=>by
 obtain ⟨H,O,E,L,R⟩:=I k e.symm;exact J H O E L R⟩
theorem a_U (W:World) (b o:Nat) (x:Value) (k:Nat) (h:k≠b):(W.setCell ⟨b,o,none⟩ x).heap[k]?=W.heap[k]?:=by
 unfold World.setCell;simp [Array.getElem?_modify,Ne.symm h]
theorem a_n {W:World} {b o:Nat} {x:Value} {E:Array Value} {e:TypeId} {D:Nat×Nat} (h:W.heap[b]?=some (.cells E e D)):(W.setCell ⟨b,o,none⟩ x).heap[b]?=some (.cells (E.setIfInBounds o x) e D):=by
 unfold World.setCell;simp [Array.getElem?_modify,h]
theorem Only.set {S:List TypeId} {W:World} {b o:Nat} {x:Value} {H:Array Value} {e:TypeId} {E:Nat×Nat} (h:W.heap[b]?=some (.cells H e E)) (he:e∈S):Only S W (W.setCell ⟨b,o,none⟩ x):=⟨by simp,fun k J I=>a_U W b o x k fun D=>by
 subst D;exact I H e E h he⟩
theorem OwnK.only {k:IntKind} {e:TypeId} {S:List TypeId} {W W':World} {B:Nat} {v:Value} {l:List Int} (h:OwnK k e W B v l) (J:Only S W W') (he:e∉S):OwnK k e W' B v l:=by
 refine ⟨h.1,?_⟩;rcases h.2 with E|⟨g,cap,D,I,hb,H,rest⟩
 ·exact .inl E
 ·exact .inr ⟨g,cap,D,I,hb,J.keep H he,rest⟩
/-- A node, as the document has it. -/
structure Nd where
 op:Int
 a:Int
 b:Int
 k:Int
 D:List Int
 X:List Int
/-- A node's six cells. -/
def NdC (W:World) (B:Nat) (nd:Nd) (u:List Value):Prop:=∃ s t,u = [.int .i64 nd.op,.int .i64 nd.a,.int .i64 nd.b,.int .i64 nd.k,s,t]/\OwnK .i64 3 W B s nd.D/\OwnK .i64 23 W B t nd.X
def NdsC (W:World) (B:Nat) (ns:List Nd) (xs:List Value):Prop:=xs.length=ns.length*6/\∀ i nd,ns[i]?=some nd->NdC W B nd ((xs.drop (i*6)).take 6)
theorem NdC.only {S:List TypeId} {W W':World} {B:Nat} {nd:Nd} {u:List Value} (h:NdC W B nd u) (D:Only S W W') (J:3∉S) (E:23∉S):NdC W' B nd u:=by
 obtain ⟨s,t,e,H,I⟩:=h;exact ⟨s,t,e,H.only D J,I.only D E⟩
theorem NdsC.only {S:List TypeId} {W W':World} {B:Nat} {ns:List Nd} {D:List Value} (h:NdsC W B ns D) (H:Only S W W') (J:3∉S) (I:23∉S):NdsC W' B ns D:=⟨h.1,fun i nd E=>(h.2 i nd E).only H J I⟩
theorem NdC.len {W:World} {B:Nat} {nd:Nd} {u:List Value} (h:NdC W B nd u):u.length=6:=by
 obtain ⟨s,t,rfl,_⟩:=h;rfl
theorem NdC.one {W:World} {B:Nat} {nd:Nd} {u:List Value} (h:NdC W B nd u):∀ x∈u,x.oneCell'=true:=by
 obtain ⟨s,t,rfl,E,H⟩:=h;obtain ⟨_,_,_,rfl,_⟩:=E.nums.lst;obtain ⟨_,_,_,rfl,_⟩:=H.nums.lst;intro x D;simp only [List.mem_cons,List.not_mem_nil,or_false] at D;rcases D with rfl|rfl|rfl|rfl|rfl|rfl <;> rfl
theorem NdsC.push {W:World} {B:Nat} {ns:List Nd} {I:List Value} {nd:Nd} {u:List Value} (h:NdsC W B ns I) (J:NdC W B nd u):NdsC W B (ns++[nd]) (I++u):=by
 have L:=J.len;refine ⟨by rw [List.length_append,List.length_append,h.1,L];simp;omega,fun i x D=>?_⟩;by_cases E:i < ns.length
 ·rw [List.getElem?_append_left E] at D;have:=h.2 i x D;rw [List.drop_append_of_le_length (by rw [h.1];omega),List.take_append_of_le_length (by rw [List.length_drop,h.1];omega)];exact this
 ·rw [List.getElem?_append_right (by omega)] at D
  obtain H:i=ns.length:=by
   rcases Nat.eq_or_lt_of_le (Nat.le_of_not_lt E) with e|e
   ·exact e.symm
   ·rw [List.getElem?_eq_none (by simp;omega)] at D;cases D
  subst H;rw [Nat.sub_self] at D;cases D;rw [<- h.1,List.drop_left,List.take_of_length_le (by omega)];exact J
theorem NdsC.nil (W:World) (B:Nat):NdsC W B [] []:=⟨rfl,fun i nd h=>by simp at h⟩
/-- A tape: a block with one cell, the row of its nodes. -/
def Tap (TT NT:TypeId) (W:World) (B b:Nat) (ns:List Nd):Prop:=B<=b/\∃ v xs,W.heap[b]?=some (.cells #[v] TT (0,0))/\W.ownsRow B NT 6 v ns.length xs/\NdsC W B ns xs
theorem a_z {S:List TypeId} {W W':World} {B n s:Nat} {e:TypeId} {v:Value} {E:List Value} (h:W.ownsRow B e s v n E) (L:Only S W W') (he:e∉S):W'.ownsRow B e s v n E:=by
 refine ⟨h.1,?_⟩;rcases h.2 with H|⟨g,cap,D,J,hb,I,rest⟩
 ·exact .inl H
 ·exact .inr ⟨g,cap,D,J,hb,L.keep I he,rest⟩
theorem Tap.only {TT NT:TypeId} {S:List TypeId} {W W':World} {B b:Nat} {ns:List Nd} (h:Tap TT NT W B b ns) (D:Only S W W') (M:TT∉S) (L:NT∉S) (R:3∉S) (I:23∉S):Tap TT NT W' B b ns:=by
 obtain ⟨hb,v,J,O,E,H⟩:=h;exact ⟨hb,v,J,D.keep O M,a_z E D L,H.only D R I⟩
theorem Tap.up {TT NT:TypeId} {W W':World} {B b:Nat} {ns:List Nd} (h:Tap TT NT W B b ns) (D:Below W.heap.size W W'):Tap TT NT W' B b ns:=h.only (S:=[]) (Only.of D) (by simp) (by simp) (by simp) (by simp)
theorem Tap.new {TT NT:TypeId} {W:World} {B:Nat} (D:B<=W.heap.size):Tap TT NT (W.alloc (.cells #[.slice none 0 0] TT)) B W.heap.size []:=
 ⟨D,_,[],heap_alloc_new W _,World.ownsRow_nil _ _ _ _,NdsC.nil _ _⟩
theorem d_8 {TT NT:TypeId} (D:NT≠TT) {W:World} {B b n s:Nat} {v J:Value} {H:List Value} (hb:W.heap[b]?=some (.cells #[J] TT (0,0))) (h:W.ownsRow B NT s v n H):v.ownBlock≠some b:=by
 rcases h.2 with ⟨rfl,_⟩|⟨g,cap,I,rfl,_,E,_⟩
 ·simp [Value.ownBlock]
 ·intro e;simp [Value.ownBlock] at e;subst e;rw [hb] at E;cases E;exact D rfl
/-- A node more: the row was made longer, then the tape's cell was written. -/
theorem Tap.push {TT NT:TypeId} (H:NT≠TT) (n1:3∉[TT,NT]) (n2:23∉[TT,NT]) {W W':World} {B b:Nat} {ns:List Nd} {v E:Value} {J u:List Value} {nd:Nd} (hB:B<=b)
  (M:W.heap[b]?=some (.cells #[v] TT (0,0))) (ho:W.ownsRow B NT 6 v ns.length J) (hn:NdsC W B ns J) (hu:NdC W B nd u) (hg:W.grownBy W' v.ownBlock) (L:W'.ownsRow B NT 6 E (ns.length+1) (J++u)):
  Tap TT NT (W'.setCell ⟨b,0,none⟩ E) B b (ns++[nd])/\Only [TT,NT] W (W'.setCell ⟨b,0,none⟩ E):=by
 have I:∀ k,v.ownBlock=some k->∃ cs e fz,W.heap[k]?=some (.cells cs e fz)/\e∈[TT,NT]:=fun k O=>by
  rcases ho.2 with ⟨rfl,_⟩|⟨g,cap,aa,rfl,_,R,_⟩
  ·simp [Value.ownBlock] at O
  ·simp [Value.ownBlock] at O;subst O;exact ⟨_,_,_,R,by simp⟩
 have U:Only [TT,NT] W W':=Only.grown hg I
 have D:W'.heap[b]?=some (.cells #[v] TT (0,0)):=by
  rw [hg.block b (a_i M) (Ne.symm (d_8 H M ho))];exact M
 have V:Only [TT,NT] W' (W'.setCell ⟨b,0,none⟩ E):=Only.set D (by simp);have o3:Only [TT] W' (W'.setCell ⟨b,0,none⟩ E):=Only.set D (by simp);refine ⟨⟨hB,E,J++u,?_,?_,?_⟩,U.trans V⟩
 ·rw [a_n D];rfl
 ·rw [List.length_append];exact a_z L o3 (by simp;exact H)
 ·exact ((hn.push hu).only U n1 n2).only V n1 n2
/-- What a walk reads of a tape. -/
theorem Tap.head {TT NT:TypeId} {W:World} {B b:Nat} {ns:List Nd} (h:Tap TT NT W B b ns):∃ p c D,W.heap[b]?=some (.cells #[.slice p ns.length c] TT (0,0))/\W.ownsRow B NT 6 (.slice p ns.length c) ns.length D/\NdsC W B ns D/\ns.length<=c:=by
 obtain ⟨hb,v,D,J,E,I⟩:=h;rcases E.2 with ⟨rfl,L⟩|⟨g,cap,M,rfl,R,U,O,rest⟩
 ·rw [L] at E;have H:ns = []:=List.eq_nil_of_length_eq_zero L;subst H;exact ⟨none,0,D,J,E,I,Nat.le_refl _⟩
 ·exact ⟨_,_,D,J,E,I,O⟩
theorem b_G {W:World} {b:Nat} {v:Value} {e:TypeId} (h:W.heap[b]?=some (.cells #[v] e (0,0))):W.cell? ⟨b,0,none⟩=some v/\W.frozen? ⟨b,0,none⟩=false:=by
 unfold World.cell? World.frozen?;simp [h]
/-- A node's cells, one by one. -/
theorem d_v {NT:TypeId} {W:World} {B:Nat} {ns:List Nd} {p:Option Addr} {c n:Nat} {I:List Value} (L:W.ownsRow B NT 6 (.slice p n c) n I) (R:NdsC W B ns I) (hl:ns.length=n) (i:Nat) (hi:i < n):
  ∃ q nd s t,p=some ⟨q,0,none⟩/\ns[i]?=some nd/\W.cell? ⟨q,i*6,none⟩=some (.int .i64 nd.op)/\W.cell? ⟨q,i*6+1,none⟩=some (.int .i64 nd.a)/\W.cell? ⟨q,i*6+2,none⟩=some (.int .i64 nd.b)/\W.cell? ⟨q,i*6+3,none⟩=some (.int .i64 nd.k)/\W.cell? ⟨q,i*6+4,none⟩=some s/\W.cell? ⟨q,i*6+5,none⟩=some t
   /\ OwnK .i64 3 W B s nd.D/\OwnK .i64 23 W B t nd.X:=by
 have J:ns[i]?=some (ns[i]'(by omega)):=List.getElem?_eq_getElem _;obtain ⟨s,t,e,U,V⟩:=R.2 i _ J
 have E:∀ j u,((I.drop (i*6)).take 6)[j]?=some u->I[i*6+j]?=some u:=fun j u h=>by
  rw [List.getElem?_take] at h
  split at h
  ·rw [List.getElem?_drop] at h;exact h
  ·cases h
 rw [e] at E;rcases L.2 with ⟨h0,h1⟩|⟨g,cap,M,O,hb,hg,rest⟩
 ·omega
 ·cases O
  have H:∀ j u,I[j]?=some u->W.cell? ⟨g,j,none⟩=some u:=fun j u h=>by
   have:=L.cells (g:=g) rfl j u h;rw [a_u,Nat.zero_add] at this;exact this
  exact ⟨g,_,s,t,rfl,J,H _ _ (E 0 _ rfl),H _ _ (E 1 _ rfl),H _ _ (E 2 _ rfl),H _ _ (E 3 _ rfl),H _ _ (E 4 _ rfl),H _ _ (E 5 _ rfl),U,V⟩
/-- A slice's type whose elements are nodes. -/
structure StT (P:Program) (t e:TypeId) (b:Nat):Prop where
 ht:P.underlying t=some (.slice e)
 hi:(P.info? e).map (fun i=>(i.zero.map fun z=>z.cells.size,i.size,i.bytes))=some (some 6,6,b)
/-- A literal's block of one node. -/
def LitS (e:TypeId) (B:Nat) (u:List Value) (v:Value) (W:World):Prop:=∃ g,v = .slice (some ⟨g,0,none⟩) 1 1/\W.heap[g]?=some (.cells u.toArray e (0,0))/\B<=g
theorem LitS.up {e:TypeId} {B:Nat} {u:List Value} {v:Value} {W W':World} (h:LitS e B u v W) (H:Below W.heap.size W W'):LitS e B u v W':=by
 obtain ⟨g,E,D,I⟩:=h;exact ⟨g,E,by rw [H.block g (a_i D)];exact D,I⟩
theorem LitS.grown {e:TypeId} {B:Nat} {u:List Value} {v:Value} {W W':World} {r:Option Nat} (h:LitS e B u v W) (J:W.grownBy W' r) (E:∀ k,r=some k->k < B):LitS e B u v W':=by
 obtain ⟨g,H,D,I⟩:=h;refine ⟨g,H,?_,I⟩;rw [J.block g (a_i D) (fun e=>by have:=E g e.symm;omega)];exact D
/-- A row of nodes of one's own. -/
def OwnN (e:TypeId) (B n:Nat) (xs:List Value) (v:Value) (W:World):Prop:=W.ownsRow B e 6 v n xs
theorem OwnN.up {e:TypeId} {B n:Nat} {D:List Value} {v:Value} {W W':World} (h:OwnN e B n D v W) (E:Below W.heap.size W W'):OwnN e B n D v W':=a_z (S:=[]) h (Only.of E) (by simp)
theorem g_M {a b c:World} {r:Option Nat} (h:a.grownBy b r) (D:Below b.heap.size b c):a.grownBy c r:=⟨D.os.trans h.os,D.tape.trans h.tape,D.output.trans h.output,Nat.le_trans h.size D.size,fun k E H=>(D.block k (Nat.lt_of_lt_of_le E h.size)).trans (h.block k E H)⟩
theorem b_f {a b:World} (r:Option Nat) (h:Below a.heap.size a b):a.grownBy b r:=⟨h.os,h.tape,h.output,h.size,fun k D _=>h.block k D⟩
theorem d_Q {a b c:World} {r:Option Nat} (h:a.grownBy b r) (D:b.grownBy c r):a.grownBy c r:=⟨D.os.trans h.os,D.tape.trans h.tape,D.output.trans h.output,Nat.le_trans h.size D.size,fun k H E=>(D.block k (Nat.lt_of_lt_of_le H h.size) E).trans (h.block k H E)⟩
end Go.Proofs.YtjlofobnmjompaaGreatDoor.Wd
namespace Go.Proofs
open Go.Shelf
def Tryz.lays134_ren:Go.Shelf.Ren:=⟨fun|134=>191|129=>195|n=>n,fun|53=>43|3=>3|4=>4|46=>116|5=>5|9=>9|n=>n,fun|n=>n⟩
theorem Tryz.lays134:Go.Proofs.Lays.n134 Tryz.prog Tryz.lays134_ren:={
 mixed:=by kernel_rfl
 f129:=Tryz.func195.trans (congrArg some (by kernel_rfl))
 f134:=Tryz.func191.trans (congrArg some (by kernel_rfl))
 t3:=Tryz.underlying3
 a3:=Tryz.isAgg3
 z3:=Tryz.sizeOf3
 v3:=Tryz.zeroValue3
 t4:=Tryz.underlying4
 a4:=Tryz.isAgg4
 z4:=Tryz.sizeOf4
 v4:=Tryz.zeroValue4
 t5:=Tryz.underlying5
 a5:=Tryz.isAgg5
 z5:=Tryz.sizeOf5
 v5:=Tryz.zeroValue5
 t9:=Tryz.underlying9
 a9:=Tryz.isAgg9
 z9:=Tryz.sizeOf9
 v9:=Tryz.zeroValue9
 t46:=Tryz.underlying116
 a46:=Tryz.isAgg116
 z46:=Tryz.sizeOf116
 v46:=Tryz.zeroValue116
 t53:=Tryz.underlying43
 a53:=Tryz.isAgg43
 z53:=Tryz.sizeOf43
 v53:=Tryz.zeroValue43 }
theorem Tryz.bits_LeadingZeros64 (x:Int) (w:World) (E:0<=x) (D:x<=18446744073709551615):
  Calls Tryz.prog 191 #[.int .u64 x] w fun e H=>e = .returned (.int .i64 (64 - (Lib.bitLen x.toNat:Int)))/\H=w:=Any.bits_LeadingZeros64 Tryz.lays134 x w E D
def Tryz.lays264_ren:Go.Shelf.Ren:=⟨fun|264=>130|n=>n,fun|53=>43|46=>116|n=>n,fun|n=>n⟩
theorem Tryz.lays264:Go.Proofs.Lays.n264 Tryz.prog Tryz.lays264_ren:={
 mixed:=by kernel_rfl
 f264:=Tryz.func130.trans (congrArg some (by kernel_rfl))
 t46:=Tryz.underlying116
 a46:=Tryz.isAgg116
 z46:=Tryz.sizeOf116
 v46:=Tryz.zeroValue116
 t53:=Tryz.underlying43
 a53:=Tryz.isAgg43
 z53:=Tryz.sizeOf43
 v53:=Tryz.zeroValue43 }
open Go.RowKit Go.Lib in
theorem Tryz.bits_Mul64 (x y:Nat) (E:x < 18446744073709551616) (D:y < 18446744073709551616) (w:World):
  Calls Tryz.prog 130 #[.int .u64 x,.int .u64 y] w fun e H=>e = .returned (.tuple #[.int .u64 ((x*y / 18446744073709551616:Nat):Int),.int .u64 ((x*y % 18446744073709551616:Nat):Int)])/\H=w:=Any.bits_Mul64 Tryz.lays264 x y E D w
def Tryz.lays212_ren:Go.Shelf.Ren:=⟨fun|212=>102|263=>129|264=>130|n=>n,fun|46=>116|51=>191|146=>192|53=>43|148=>80|n=>n,fun|n=>n⟩
theorem Tryz.lays212:Go.Proofs.Lays.n212 Tryz.prog Tryz.lays212_ren:={
 mixed:=by kernel_rfl
 f212:=Tryz.func102.trans (congrArg some (by kernel_rfl))
 f263:=Tryz.func129.trans (congrArg some (by kernel_rfl))
 f264:=Tryz.func130.trans (congrArg some (by kernel_rfl))
 t46:=Tryz.underlying116
 a46:=Tryz.isAgg116
 z46:=Tryz.sizeOf116
 v46:=Tryz.zeroValue116
 t51:=Tryz.underlying191
 a51:=Tryz.isAgg191
 z51:=Tryz.sizeOf191
 v51:=Tryz.zeroValue191
 t53:=Tryz.underlying43
 a53:=Tryz.isAgg43
 z53:=Tryz.sizeOf43
 v53:=Tryz.zeroValue43
 t146:=Tryz.underlying192
 a146:=Tryz.isAgg192
 z146:=Tryz.sizeOf192
 v146:=Tryz.zeroValue192
 t148:=Tryz.underlying80
 a148:=Tryz.isAgg80
 z148:=Tryz.sizeOf80
 v148:=Tryz.zeroValue80 }
open Go.RowKit Go.Lib in
theorem Tryz.bits_Mul (x y:Nat) (E:x < 18446744073709551616) (D:y < 18446744073709551616) (w:World):
  Calls Tryz.prog 102 #[.int .u64 x,.int .u64 y] w fun e H=>e = .returned (.tuple #[.int .u64 ((x*y / 18446744073709551616:Nat):Int),.int .u64 ((x*y % 18446744073709551616:Nat):Int)])/\H=w:=Any.bits_Mul Tryz.lays212 x y E D w
end Go.Proofs
namespace Go.Proofs.YtjlofobnmjompaaGreatDoor.Fx
open Go.RowKit
theorem ret_int {k:IntKind} {a b:Int} (h:a=b):Ending.returned (.int k a) = .returned (.int k b):=by rw [h]
theorem bound_any (b:Bool) (w:World):
  Calls Tryz.prog 147 #[.bool b] w fun e D=>e = .returned (.int .i64 (lim b))/\D=w:=by
 cases b
 all_goals
  go_enter Tryz.func147,Tryz.ntmps147;go_wp2;go_ret;exact ⟨rfl,rfl⟩
theorem size_any (a:Int) (n:Nat) (E:InR a) (D:a.natAbs=n) (w:World):
  Calls Tryz.prog 162 #[.int .i64 a] w fun e I=>e = .returned (.int .u64 n)/\I=w:=by
 unfold InR at E;have H:Hid (a.natAbs=n):=D;clear D;by_cases h:a < 0
 all_goals
  go_enter Tryz.func162,Tryz.ntmps162;go_wp2;go_ret;refine ⟨ret_int ?_,rfl⟩;have D:=H.out
  try simp only [IntKind.wrap_u64]
  omega
theorem j_y (b:Bool) (n:Nat) (E:n < 18446744073709551616) (w:World):
  Calls Tryz.prog 163 #[.bool b,.int .u64 n] w fun e D=>e = .returned (.int .i64 (hold (sg b n)))/\D=w:=by
 by_cases h:9223372036854775807 < n
 ·go_enter Tryz.func163,Tryz.ntmps163;go_wp2_with (go_at_call 147;refine (bound_any _ _).mono ?_;rintro e D ⟨rfl,rfl⟩)
  go_ret;exact ⟨ret_int (g_L b n h),rfl⟩
 ·cases b
  all_goals
   go_enter Tryz.func163,Tryz.ntmps163;go_wp2;go_ret
   first|exact ⟨ret_int (p_Q n (by omega)),rfl⟩|exact ⟨ret_int (l_B n (by omega)),rfl⟩
theorem nearest_any (q r d:Nat) (H:q < 18446744073709551615) (E:r < d) (I:d<=9223372036854775808) (w:World):
  Calls Tryz.prog 184 #[.int .u64 q,.int .u64 r,.int .u64 d] w fun e D=>e = .returned (.int .u64 (nr q r d:Nat))/\D=w:=by
 go_enter Tryz.func184,Tryz.ntmps184;go_wp2
 all_goals
  go_ret;refine ⟨ret_int ?_,rfl⟩
  try simp only [beq_iff_eq,beq_eq_false_iff_ne,ne_eq] at *
  unfold nr
  split <;> omega
theorem i_p (E D:Nat) (J:E < 2147483648) (H:D < 18446744073709551616) (w:World):
  Calls Tryz.prog 164 #[.int .u64 E,.int .u64 D] w fun e I=>e = .returned (.int .u64 (rq (E*18446744073709551616+D) 4294967296:Nat))/\I=w:=by
 go_enter Tryz.func164,Tryz.ntmps164;go_wp2_with fail
 rw [joinN E D (by omega) H,s_F D H];have c:=nearest_any (E*4294967296+D / 4294967296) (D % 4294967296) 4294967296 (by omega) (by omega) (by omega) w;rw [show ((4294967296:Nat):Int)=4294967296 from rfl] at c;refine c.mono ?_;rintro e I ⟨rfl,rfl⟩;go_wp2;go_ret;refine ⟨ret_int ?_,rfl⟩;rw [<- n_Q,p_R,p_S]
theorem of_any (n:Int) (D:InR n) (w:World):
  Calls Tryz.prog 185 #[.int .i64 n] w fun e E=>e = .returned (.int .i64 (hold (n*4294967296)))/\E=w:=by
 unfold InR at D;by_cases I:n > 2147483647
 ·go_enter Tryz.func185,Tryz.ntmps185;go_wp2;go_ret;exact ⟨ret_int (f_p (by omega)).symm,rfl⟩
 ·by_cases H:n < -2147483648
  ·go_enter Tryz.func185,Tryz.ntmps185;go_wp2;go_ret;exact ⟨ret_int (f_q (by omega)).symm,rfl⟩
  ·go_enter Tryz.func185,Tryz.ntmps185;go_wp2;go_ret;refine ⟨ret_int ?_,rfl⟩;rw [hold_in (by omega) (by omega)]
theorem add_any (a b:Int) (D:InR a) (hb:InR b) (w:World):
  Calls Tryz.prog 118 #[.int .i64 a,.int .i64 b] w fun e E=>e = .returned (.int .i64 (hold (a+b)))/\E=w:=by
 go_enter Tryz.func118,Tryz.ntmps118;go_wp2_with (go_at_call 147;refine (bound_any _ _).mono ?_;rintro e E ⟨rfl,rfl⟩)
 all_goals
  go_ret
  first
  |exact ⟨ret_int (l_C a b D hb ‹_›),rfl⟩
  |exact ⟨ret_int (n_N a b D hb ‹_›),rfl⟩
theorem sub_any (a b:Int) (D:InR a) (hb:InR b) (w:World):
  Calls Tryz.prog 148 #[.int .i64 a,.int .i64 b] w fun e E=>e = .returned (.int .i64 (hold (a - b)))/\E=w:=by
 go_enter Tryz.func148,Tryz.ntmps148;go_wp2_with (go_at_call 147;refine (bound_any _ _).mono ?_;rintro e E ⟨rfl,rfl⟩)
 all_goals
  go_ret
  first
  |exact ⟨ret_int (l_D a b D hb ‹_›),rfl⟩
  |exact ⟨ret_int (n_P a b D hb ‹_›),rfl⟩
theorem n_W (x y E D:Nat) (J:x < 18446744073709551616) (H:y < 18446744073709551616) (I:E=x*y / 18446744073709551616) (L:D=x*y % 18446744073709551616) (w:World):
  Calls Tryz.prog 130 #[.int .u64 x,.int .u64 y] w fun e M=>e = .returned (.tuple #[.int .u64 E,.int .u64 D])/\M=w:=by
 subst I L;exact Tryz.bits_Mul64 x y J H w
theorem mul_any (a b:Int) (R:InR a) (hb:InR b) (w:World):
  Calls Tryz.prog 134 #[.int .i64 a,.int .i64 b] w fun e I=>e = .returned (.int .i64 (mulI a b))/\I=w:=by
 have hx:a.natAbs<=9223372036854775808:=by unfold InR at R;omega
 have hy:b.natAbs<=9223372036854775808:=by unfold InR at hb;omega
 obtain ⟨x,M⟩:∃ x,a.natAbs=x:=⟨_,rfl⟩
 obtain ⟨y,J⟩:∃ y,b.natAbs=y:=⟨_,rfl⟩
 obtain ⟨D,V⟩:∃ D,D=x*y / 18446744073709551616:=⟨_,rfl⟩
 obtain ⟨H,U⟩:∃ H,H=x*y % 18446744073709551616:=⟨_,rfl⟩
 have hh:D<=4611686018427387904:=by
  have:=Nat.mul_le_mul (M ▸ hx) (J ▸ hy);omega
 have hl:H < 18446744073709551616:=by omega
 have E:Hid (a.natAbs=x/\b.natAbs=y/\D=x*y / 18446744073709551616/\H=x*y % 18446744073709551616):=⟨M,J,V,U⟩
 have L:x < 18446744073709551616:=by omega
 have O:y < 18446744073709551616:=by omega
 clear M J V U;by_cases hf:D < 2147483648
 all_goals
  go_enter Tryz.func134,Tryz.ntmps134;go_wp2_with fail
  refine (size_any a x R E.out.1 _).mono ?_;rintro e I ⟨rfl,rfl⟩;go_wp2_with fail
  refine (size_any b y hb E.out.2.1 _).mono ?_;rintro e I ⟨rfl,rfl⟩;go_wp2_with fail
  refine (n_W x y D H L O E.out.2.2.1 E.out.2.2.2 _).mono ?_;rintro e I ⟨rfl,rfl⟩;go_wp2_with fail
 ·refine (i_p D H hf hl _).mono ?_;rintro e I ⟨rfl,rfl⟩;go_wp2_with fail
  refine (j_y _ _ (n_R D H hf hl) _).mono ?_;rintro e I ⟨rfl,rfl⟩;go_wp2;go_ret;exact ⟨ret_int (n_S a b x y E.out.1 E.out.2.1 D H E.out.2.2.1 E.out.2.2.2),rfl⟩
 ·refine (bound_any _ _).mono ?_;rintro e I ⟨rfl,rfl⟩;go_wp2;go_ret;exact ⟨ret_int (p_T a b x y E.out.1 E.out.2.1 (by have:=E.out.2.2.1;omega)),rfl⟩
end Go.Proofs.YtjlofobnmjompaaGreatDoor.Fx
