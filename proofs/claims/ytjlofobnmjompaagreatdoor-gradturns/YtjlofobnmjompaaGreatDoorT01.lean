/- A region that draws its order: its operations only read, its callees leave all that stood as it was, at most one operation makes a block, and the last ones (stores) wait for all others: walked once, in the order of the text. A region that draws its order, some of whose operations hand back values that differ from world to world (a new block's address): each such value is told by what stays true of it; walked once, in the order of the text. The law of Rel.lean, where one operation (number i0) hands back a value in whatever world, and the rest need not wait for it: it is taken as soon as it may  -/
import Derived.Deep.QuietTactic
import Derived.BigQuiet
import Derived.Below
import Derived.Handy
import Derived.Test.YtjlofobnmjompaaGreatDoorT00
import Derived.RowKit
import Derived.Laws.Bits64b
import Derived.Laws.BitsLemmas
import Derived.Deep.AppendLies
import Derived.Shelf.Small.Bits
import Derived.Shelf.Strconv.Itoa0
import Derived.Shelf.Bits.Mul64
import Derived.Test.YtjlofobnmjompaaGreatDoorProg
import Derived.WalkKit
import Derived.ProofKit
import Derived.WalkSpells
set_option linter.unusedVariables false
set_option linter.unusedSimpArgs false
set_option maxHeartbeats 16000000
set_option maxRecDepth 16000
namespace Go.Proofs.YtjlofobnmjompaaGreatDoor.Wd
open Go.RowKit
/-- A world that keeps all that stood in w0. -/
theorem sA_ {α:Type} (l:List α) (i:Nat) (a:α):l.toArray.setIfInBounds i a=(l.set i a).toArray:=by simp
theorem sB_ {α:Type} (x y:α) (l:List α):(x :: l).set 0 y=y :: l:=rfl
theorem sC_ {α:Type} (x y:α) (i:Nat) (l:List α):(x :: l).set (i+1) y=x :: l.set i y:=rfl
def e_K (w0 d:World):World:={ d with heap:=w0.heap++d.heap.extract w0.heap.size d.heap.size,os:=w0.os,tape:=w0.tape,output:=w0.output }
theorem a_W (D d:World):Below D.heap.size D (e_K D d):=
 ⟨rfl,rfl,rfl,by unfold e_K;simp,fun k H=>by unfold e_K;simp [Array.getElem?_append,H]⟩
theorem d_r {H W:World} (h:Below H.heap.size H W):∃ d,W=e_K H d:=by
 refine ⟨W,?_⟩;obtain ⟨D,tape,I,os,output⟩:=W;obtain ⟨J,M,R,U,L⟩:=h;simp only at J M R U L;subst J M R;unfold e_K
 congr 1
 refine Array.ext_getElem? fun i=>?_;rw [Array.getElem?_append]
 split
 ·rename_i O
  exact L i O
 ·rename_i O
  rw [Array.getElem?_extract];show _=if i - H.heap.size < min D.size D.size - H.heap.size then D[H.heap.size+(i - H.heap.size)]? else none;rw [Nat.min_self];by_cases c:i < D.size
  ·rw [if_pos (by omega),show H.heap.size+(i - H.heap.size)=i by omega]
  ·rw [if_neg (by omega)];exact Array.getElem?_eq_none (by omega)
/-- A family of worlds on top of w, which holds with each world all that keep what stood in it. -/
structure Fam (w:World) (F:World->World):Prop where
 below:∀ d,Below w.heap.size w (F d)
 on:∀ d W,Below (F d).heap.size (F d) W->∃ d',W=F d'
theorem d_L {w W:World} (h:Below w.heap.size w W):Fam w (e_K W):=
 ⟨fun d=>h.trans ((a_W W d).mono h.size),fun d W' hb=>d_r ((a_W W d).trans (hb.mono (a_W W d).size))⟩
theorem Fam.cell {w:World} {F:World->World} (h:Fam w F) (d:World) (b o:Nat) (hb:b < w.heap.size):(F d).cell? ⟨b,o,none⟩=w.cell? ⟨b,o,none⟩:=(h.below d).cell (p:=⟨b,o,none⟩) hb
theorem Fam.frozen {w:World} {F:World->World} (h:Fam w F) (d:World) (b o:Nat) (hb:b < w.heap.size):(F d).frozen? ⟨b,o,none⟩=w.frozen? ⟨b,o,none⟩:=(h.below d).frozen (p:=⟨b,o,none⟩) hb
theorem Fam.call {w:World} {F:World->World} (hF:Fam w F) {P:Program} {f:FuncId} {args:Array Value} {d:World} {v:Value}
  (h:Calls P f args (F d) fun e H=>e = .returned v/\Below (F d).heap.size (F d) H):Calls P f args (F d) fun e D=>e = .returned v/\∃ d',D=F d':=
 h.mono fun _ _ ⟨he,hb⟩=>⟨he,hF.on d _ hb⟩
theorem Fam.same {w:World} {F:World->World} (hF:Fam w F) {P:Program} {f:FuncId} {args:Array Value} {d:World} {v:Value}
  (h:Calls P f args (F d) fun e H=>e = .returned v/\H=F d):Calls P f args (F d) fun e D=>e = .returned v/\∃ d',D=F d':=
 h.mono fun _ _ ⟨he,hb⟩=>⟨he,d,hb⟩
section
variable {P : Program} {ops : Array Oper} {Q : Exit -> Act -> World -> Prop}
theorem a_6 {a:Act} {dst:Option Tmp} {v:Value} {t:Nat} (h:dst≠some t):(a.put dst v).tmps[t]?=a.tmps[t]?:=by
 cases dst with
 | none=>rfl
 | some d=>exact Array.getElem?_setIfInBounds_ne (fun e=>h (by rw [e]))
theorem b_F {a:Act} {t:Nat} {v:Value} (h:t < a.tmps.size):(a.put (some t) v).tmps[t]?=some v:=by
 simp [Act.put,h]
theorem a_J (a:Act) (dst:Option Tmp) (v:Value):(a.put dst v).tmps.size=a.tmps.size:=by cases dst <;> simp [Act.put]
theorem b_s (a:Act) (dst:Option Tmp) (v:Value):(a.put dst v).defers=a.defers:=by cases dst <;> simp [Act.put]
theorem c_J:(∀ (a:Act) (v:Value),a.put none v=a)/\(∀ (a:Act) (t:Tmp) (v:Value),a.put (some t) v=⟨a.tmps.setIfInBounds t v,a.defers⟩)/\(∀ (l:List Value) (i:Nat) (x:Value),l.toArray.setIfInBounds i x=(l.set i x).toArray)/\(∀ (x y:Value) (l:List Value),(y :: l).set 0 x=x :: l)/\(∀ (x y:Value) (l:List Value) (i:Nat),(y :: l).set (i+1) x=y :: l.set i x):=
 ⟨fun _ _=>rfl,fun _ _ _=>rfl,fun _ _ _=>List.setIfInBounds_toArray ..,fun _ _ _=>rfl,fun _ _ _ _=>rfl⟩
theorem a_M {p q:Prop} (a:p) (b:q):Hid (p/\q):=⟨a,b⟩
theorem c_a {o:Oper} (D:∀ H b,o.op≠.select H b) {a A:Act} (h:∀ t,t∈o.looksAt ops->A.tmps[t]?=a.tmps[t]?):execOp A.eval o=execOp a.eval o:=
 execOp_congr o D fun x I=>by
  cases x with
  | tmp t=>
   have:=h t (List.mem_append_left _ (List.mem_filterMap.2 ⟨.tmp t,by simpa using I,rfl⟩));simp only [Act.eval,Array.getD_eq_getD_getElem?,this]
  | const v=>rfl
  | global g=>rfl
  | func f=>rfl
theorem b_z {o:Oper} {a A:Act} (h:∀ t,t∈o.looksAt ops->A.tmps[t]?=a.tmps[t]?):Region.wanted o (yielded ops A.tmps)=Region.wanted o (yielded ops a.tmps):=by
 unfold Region.wanted;cases D:o.guard with
 | none=>rfl
 | some gw=>
  obtain ⟨g,b⟩:=gw
  have:yielded ops A.tmps g=yielded ops a.tmps g:=by
   unfold yielded;cases H:(ops[g]?).bind (·.dst) with
   | none=>rfl
   | some d=>
    have:=h d (List.mem_append_right _ (by simp [D,H]));simp only [Option.bind_some,this]
  simp only [this]
def r_i (l:List Oper):List Tmp:=l.filterMap (·.dst)
theorem c_7 {C:World->Prop} {A:Act}:∀ (l:List Oper) (a:Act),wpQuiet P ops C (fun D=>D=A) l a->
  A.tmps.size=a.tmps.size/\A.defers=a.defers/\∀ t,t∉r_i l->A.tmps[t]?=a.tmps[t]?
 | [],a,h=>by
  obtain rfl:a=A:=h;exact ⟨rfl,rfl,fun _ _=>rfl⟩
 | o :: l,a,h=>by
  obtain ⟨v,M⟩:∃ v,wpQuiet P ops C (fun D=>D=A) l (a.put o.dst v):=by
   rw [wpQuiet] at h
   split at h
   ·obtain ⟨v,_,h⟩:=h;exact ⟨v,h⟩
   ·exact ⟨_,h⟩
  obtain ⟨J,L,R⟩:=c_7 l _ M;refine ⟨by rw [J,a_J],by rw [L,b_s],fun t I=>?_⟩
  rw [R t (fun U=>I (by
   obtain ⟨x,O,H⟩:=List.mem_filterMap.1 U;exact List.mem_filterMap.2 ⟨x,List.mem_cons_of_mem _ O,H⟩)),a_6 (fun H=>I (List.mem_filterMap.2 ⟨o,List.mem_cons_self,H⟩))]
def c_8 (ops:Array Oper) (n:Nat):List Oper->Bool
 | []=>true
 | o :: l=>(match o.dst with|some t=>decide (t < n) && !(r_i l).contains t|none=>true) && ((r_i (o :: l)).all fun t=>!(o.looksAt ops).contains t) && c_8 ops n l
theorem f_o {C:World->Prop} {A:Act} (n:Nat):∀ (l:List Oper) (a:Act),a.tmps.size=n->(∀ o,o∈l->∀ cs b,o.op≠.select cs b)->c_8 ops n l=true->
  wpQuiet P ops C (fun U=>U=A) l a->∀ o,o∈l->
  (Region.wanted o (yielded ops A.tmps)=true/\∃ v,(∀ t,o.dst=some t->A.tmps[t]?=some v)/\∀ W,C W->o.quietAt P A C W v) ∨
  (Region.wanted o (yielded ops A.tmps)=false/\∀ t,o.dst=some t->A.tmps[t]?=some undef)
 | [],_,_,_,_,_,o,M=>by cases M
 | o :: l,a,hn,hs,O,h,x,J=>by
  have aa:=c_7 (o :: l) a h;rw [c_8,Bool.and_eq_true,Bool.and_eq_true] at O;obtain ⟨⟨R,I⟩,O⟩:=O
  have H:∀ t,t∈o.looksAt ops->A.tmps[t]?=a.tmps[t]?:=fun t V=>aa.2.2 t (fun hm=>by
   have:=List.all_eq_true.1 I t hm;simp at this;exact this V)
  have he:=c_a (ops:=ops) (hs o List.mem_cons_self) H;have hw:=b_z H
  have D:∀ v,wpQuiet P ops C (fun U=>U=A) l (a.put o.dst v)->∀ t,o.dst=some t->A.tmps[t]?=some v:=by
   intro v L t V;rw [V] at R L;simp at R;rw [(c_7 l _ L).2.2 t R.2,b_F (by rw [hn];exact R.1)]
  rw [wpQuiet] at h;by_cases c:Region.wanted o (yielded ops a.tmps)=true
  ·rw [if_pos c] at h;obtain ⟨v,hq,L⟩:=h;rcases List.mem_cons.1 J with rfl|J
   ·left
    refine ⟨hw.trans c,v,D v L,fun W hW=>?_⟩;have:=hq W hW;unfold Oper.quietAt at *;rw [he];exact this
   ·exact f_o n l _ (by rw [a_J];exact hn) (fun o M=>hs o (List.mem_cons_of_mem _ M)) O L x J
  ·rw [if_neg c] at h;rcases List.mem_cons.1 J with rfl|J
   ·right
    exact ⟨hw.trans (by simpa using c),D _ h⟩
   ·exact f_o n l _ (by rw [a_J];exact hn) (fun o M=>hs o (List.mem_cons_of_mem _ M)) O h x J
/-- What an operation yields in the last frame A, whatever world on top of w it comes up in. -/
def r_j (P:Program) (ops:Array Oper) (w:World) (A:Act) (o:Oper):Prop:=
 (Region.wanted o (yielded ops A.tmps)=true/\∀ W,Below w.heap.size w W->∃ v,(∀ t,o.dst=some t->A.tmps[t]?=some v)/\o.quietAt P A (fun W'=>Below W.heap.size W W') W v) ∨
 (Region.wanted o (yielded ops A.tmps)=false/\∀ t,o.dst=some t->A.tmps[t]?=some undef)
theorem h_B {o:Oper} {a:Act} {C H:World->Prop} {W:World} {v:Value} (h:∀ W',C W'->H W') (D:o.quietAt P a C W v):o.quietAt P a H W v:=by
 unfold Oper.quietAt at *;generalize (execOp a.eval o).run P W=r at *;cases r with
 | halt x w'=>exact D
 | ok n w'=>
  cases n <;> simp only [Oper.quietUpon] at D ⊢
  case value u=>exact D
  case skip=>exact D
  case enter f args=>exact ⟨D.1,D.2.mono fun e I ⟨he,J⟩=>⟨he,h _ J⟩⟩
theorem j_o {w:World} {A a:Act} {l:List Oper} {n:Nat} (hn:a.tmps.size=n) (R:∀ o,o∈l->∀ cs b,o.op≠.select cs b) (V:c_8 ops n l=true)
  (J:∀ F,Fam w F->wpQuiet P ops (fun W=>∃ d,W=F d) (fun M=>M=A) l a) (o:Oper) (U:o∈l):r_j P ops w A o:=by
 have D:=fun W (H:Below w.heap.size w W)=>f_o n l a hn R V (J _ (d_L H)) o U;by_cases c:Region.wanted o (yielded ops A.tmps)=true
 ·left
  refine ⟨c,fun W H=>?_⟩;rcases D W H with ⟨_,v,I,L⟩|⟨h,_⟩
  ·exact ⟨v,I,h_B (fun W' ⟨d,O⟩=>by rw [O];exact a_W W d) (L W (d_r (Below.refl _ _)))⟩
  ·rw [h] at c;cases c
 ·right
  rcases D w (Below.refl _ _) with ⟨h,_⟩|h
  ·exact absurd h c
  ·exact h
/-- The operation waits for the one with that number. -/
def a_2 (o:Oper) (j:Nat):Bool:=o.after.any fun e=>Region.binds .any e && e.on==j
theorem a_q {o:Oper} {j:Nat} {D:Array Bool} (h:a_2 o j=true) (H:∀ e∈o.after,Region.binds .any e=true->D.getD e.on false=true):D.getD j false=true:=by
 obtain ⟨e,he,hb⟩:=Array.any_eq_true'.1 h;simp only [Bool.and_eq_true,beq_iff_eq] at hb;rw [<- hb.2];exact H e he hb.1
/-- The shape: operation number m comes behind all ahead of it, and each behind it waits for those from m on; among the first m each looks only at slots of such as it waits for, none at the one that makes the block (number al), and no two write one slot; whoever is waited for stands ahead. -/
def h_C (ops:Array Oper) (al m:Nat):Bool:=
 decide (m<=ops.size) && Region.noSelect ops &&
 ((List.range ops.size).all fun i=>match ops[i]? with
  | none=>false
  | some o=>(o.after.all fun e=>!Region.binds .any e || decide (e.on < i)) && (List.range i).all fun j=>decide (j < m) || a_2 o j) &&
 (decide (ops.size<=m) || (List.range m).all fun j=>(List.range (m+1)).any fun k=>decide (j < k) && match ops[k]? with
  | none=>false
  | some o=>a_2 o j) &&
 ((List.range m).all fun i=>match ops[i]? with
  | none=>false
  | some o=>(List.range m).all fun j=>match (ops[j]?).bind (·.dst) with
   | none=>true
   | some t=>(!(o.looksAt ops).contains t || (a_2 o j && j != al)) && (i==j || o.dst != some t))
theorem b_l {D:Array Bool} {j:Nat} (h:D.getD j true=false):j < D.size/\D.getD j false=false:=by
 by_cases c:j < D.size
 ·refine ⟨c,?_⟩;simp [c] at h ⊢;exact h
 ·simp [c] at h
theorem d_0 {D:Array Bool} {j:Nat} (H:j < D.size) (h:¬ D.getD j true=false):D.getD j false=true:=by
 simp [H] at h ⊢;exact h
theorem a_0 {D:Array Bool} {i n:Nat} (L:D.getD i true=false) (h:D.toList.count false=n+1):(D.setIfInBounds i true).toList.count false=n:=by
 obtain ⟨H,J⟩:=b_l L;have I:i < D.toList.length:=by simpa using H
 rw [Array.toList_setIfInBounds,List.count_set I,h];have:D.toList[i]=false:=by simpa [H] using J
 simp [this]
theorem d_s {D:Array Bool} {n:Nat} (h:D.toList.count false=n+1):∃ i,D.getD i true=false:=by
 have I:false∈D.toList:=List.count_pos_iff.1 (by omega);obtain ⟨i,J,e⟩:=List.getElem_of_mem I;refine ⟨i,?_⟩;have H:i < D.size:=by simpa using J
 simp only [Array.getElem_toList] at e;simp [H,e]
theorem b_t {D:Array Bool} (h:D.toList.count false=0) (j:Nat):¬ D.getD j true=false:=by
 intro H;obtain ⟨I,J⟩:=b_l H;refine List.count_eq_zero.1 h ?_;have:D[j]=false:=by simpa [I] using J
 rw [<- this];simp
/-- Whoever is the first not yet come up is ready. -/
theorem c_K {D:Array Bool} (O:D.size=ops.size) (hb:∀ i o,ops[i]?=some o->∀ e∈o.after,Region.binds .any e=true->e.on < i):
  ∀ i,D.getD i true=false->Region.ready .any ops D≠[]:=by
 intro i
 induction i using Nat.strongRecOn with
 | _ i ih=>
  intro M L;obtain ⟨R,U⟩:=b_l M;have J:ops[i]?=some ops[i]:=Array.getElem?_eq_getElem (by omega)
  have:i∈Region.ready .any ops D:=mem_ready.2 ⟨M,_,J,fun e he H=>by
   have I:=hb i _ J e he H;by_cases c:D.getD e.on true=false
   ·exact absurd L (ih _ I c)
   ·exact d_0 (by omega) c⟩
  rw [L] at this;cases this
theorem g_K (hb:∀ i o,ops[i]?=some o->∀ e∈o.after,Region.binds .any e=true->e.on < i) {m:Nat} (hT:∀ i o,ops[i]?=some o->∀ j,m<=j->j < i->a_2 o j=true):
  ∀ (fuel k:Nat) (D:Array Bool) (s:Act) (W:World),D.size=ops.size->m<=k->D.toList.count false=fuel->(∀ j,j < k->D.getD j false=true)->(∀ j,k<=j->j < ops.size->D.getD j true=false)->
   wpList P ops Q (ops.toList.drop k) s W->wpAny P .any ops Q fuel D s W:=by
 intro fuel
 induction fuel with
 | zero=>
  intro k D s W I R V h1 J h
  have ab:ops.size<=k:=by
   rcases Nat.lt_or_ge k ops.size with c|c
   ·exact absurd (J k (Nat.le_refl _) c) (b_t V k)
   ·exact c
  rw [List.drop_eq_nil_of_le (by simpa using ab)] at h;refine ⟨?_,h⟩;refine List.eq_nil_iff_forall_not_mem.2 fun i O=>?_;exact b_t V i (mem_ready.1 O).1
 | succ fuel ih=>
  intro k D s W I R V h1 J h
  have H:k < ops.size:=by
   obtain ⟨i,O⟩:=d_s V;obtain ⟨h3,U⟩:=b_l O;rcases Nat.lt_or_ge i k with c|c
   ·rw [h1 i c] at U;cases U
   ·omega
  refine ⟨fun hr=>absurd hr (c_K I hb k (J k (Nat.le_refl _) H)),fun i O=>?_⟩;obtain ⟨M,o,ho,L⟩:=mem_ready.1 O;obtain ⟨h3,U⟩:=b_l M
  have ad:k<=i:=by
   rcases Nat.lt_or_ge i k with c|c
   ·rw [h1 i c] at U;cases U
   ·exact c
  obtain rfl:i=k:=by
   rcases Nat.lt_or_ge k i with c|c
   ·have:=a_q (hT i o ho k R c) L;have h5:=(b_l (J k (Nat.le_refl _) H)).2;rw [this] at h5;cases h5
   ·omega
  rw [List.drop_eq_getElem_cons (by simpa using H)] at h
  have aa:ops.toList[i]'(by simpa using H)=o:=by
   have:=Array.getElem?_eq_some_iff.1 ho;simpa using this.2
  rw [aa,wpList] at h;unfold wpOp;simp only [ho]
  have go:∀ a w,wpList P ops Q (ops.toList.drop (i+1)) a w->wpAny P .any ops Q fuel (D.setIfInBounds i true) a w:=fun a w hw=>
   ih (i+1) _ a w (by simpa using I) (by omega) (a_0 M V) (fun j hj=>by
    by_cases c:j=i
    ·subst c;simp [I,H]
    ·exact getD_set_true (h1 j (by omega))) (fun j hj ac=>by rw [getD_set_ne true (by omega)];exact J j (by omega) ac) hw
  split
  ·rename_i c
   rw [if_pos c] at h;rcases h with h|h
   ·exact .inl (Oper.wp_mono go h)
   ·exact .inr h
  ·rename_i c
   rw [if_neg c] at h;exact go _ _ h
/-- The block that was made: it stands, new, as it was laid. -/
def Made (w:World) (obj:Obj) (b:Nat) (W:World):Prop:=b < W.heap.size/\w.heap.size<=b/\W.heap[b]?=some obj
theorem Made.up {w W W':World} {obj:Obj} {b:Nat} (h:Made w obj b W) (hb:Below W.heap.size W W'):Made w obj b W':=
 ⟨Nat.lt_of_lt_of_le h.1 hb.size,h.2.1,(hb.block b h.1).trans h.2.2⟩
def d_F (b:Nat):Value:=.pointer (some ⟨b,0,none⟩)
structure Inv (ops:Array Oper) (w:World) (al m:Nat) (obj:Obj) (dst:Option Tmp) (A:Act) (listed:Array Bool) (s:Act) (W:World) (b:Nat):Prop where
 size:listed.size=ops.size
 head:∀ j,m<=j->j < ops.size->listed.getD j true=false
 fsize:s.tmps.size=A.tmps.size
 fdef:s.defers=A.defers
 slot:∀ t,(∀ j o,j < m->ops[j]?=some o->o.dst=some t->listed.getD j false=true)->s.tmps[t]?=(A.put dst (d_F b)).tmps[t]?
 below:Below w.heap.size w W
 made:al < m->listed.getD al false=true->Made w obj b W
 closed:∀ j o,ops[j]?=some o->listed.getD j false=true->∀ e∈o.after,Region.binds .any e=true->listed.getD e.on false=true
theorem b_A {D:Array Bool} {i:Nat} {o:Oper} (L:ops[i]?=some o) (I:∀ e∈o.after,Region.binds .any e=true->D.getD e.on false=true)
  (h:∀ j o,ops[j]?=some o->D.getD j false=true->∀ e∈o.after,Region.binds .any e=true->D.getD e.on false=true):
  ∀ j o,ops[j]?=some o->(D.setIfInBounds i true).getD j false=true->∀ e∈o.after,Region.binds .any e=true->(D.setIfInBounds i true).getD e.on false=true:=by
 intro j M H J e he hb;by_cases c:i=j
 ·subst c;rw [L] at H;cases H;exact getD_set_true (I e he hb)
 ·rw [getD_set_ne false c] at J;exact getD_set_true (h j M H J e he hb)
theorem Inv.look {w W:World} {al m b:Nat} {obj:Obj} {dst:Option Tmp} {A s:Act} {D:Array Bool} {o:Oper} (hI:Inv ops w al m obj dst A D s W b)
  (M:∀ o,al < m->ops[al]?=some o->o.dst=dst) (L:m<=al->dst=none)
  (O:∀ j t,j < m->(ops[j]?).bind (·.dst)=some t->t∈o.looksAt ops->a_2 o j=true/\j≠al) (aa:al < ops.size∨m<=al)
  (H:∀ e∈o.after,Region.binds .any e=true->D.getD e.on false=true) (t:Nat) (R:t∈o.looksAt ops):s.tmps[t]?=A.tmps[t]?:=by
 rw [hI.slot t fun j oj V J I=>a_q (O j t V (by rw [J];exact I) R).1 H];refine a_6 fun I=>?_;rcases Nat.lt_or_ge al m with c|c
 ·have U:ops[al]?=some (ops[al]'(by omega)):=Array.getElem?_eq_getElem (by omega);have:=M _ c U;exact (O al t c (by rw [U];exact this.trans I) R).2 rfl
 ·rw [L c] at I;cases I
theorem Inv.all {w W:World} {al m b:Nat} {obj:Obj} {dst:Option Tmp} {A s:Act} {D:Array Bool} (J:Inv ops w al m obj dst A D s W b)
  (h:∀ j,j < m->D.getD j false=true):s=A.put dst (d_F b):=by
 have H:s.tmps=(A.put dst (d_F b)).tmps:=Array.ext_getElem? fun t=>J.slot t fun j _ L _ _=>h j L;have I:s.defers=(A.put dst (d_F b)).defers:=by rw [b_s];exact J.fdef
 cases s;cases M:A.put dst (d_F b);rw [M] at H I;simp only at H I;rw [H,I]
theorem j_p {w:World} {al m:Nat} {obj:Obj} {dst:Option Tmp} {A:Act} (hB:h_C ops al m=true)
  (az:∀ i o,i < m->i≠al->ops[i]?=some o->r_j P ops w A o)
  (ag:∀ o,al < m->ops[al]?=some o->o.dst=dst/\Region.wanted o (yielded ops A.tmps)=true/\∀ W,Below w.heap.size w W->(execOp A.eval o).run P W = .ok (.value (d_F W.heap.size)) (W.alloc obj))
  (aC:∀ t,dst=some t->t < A.tmps.size) (ar:m<=al->dst=none)
  (ht:∀ W b,Below w.heap.size w W->(al < m->Made w obj b W)->wpList P ops Q (ops.toList.drop m) (A.put dst (d_F b)) W):
  ∀ (fuel:Nat) (D:Array Bool) (s:Act) (W:World) (b:Nat),D.toList.count false=fuel->Inv ops w al m obj dst A D s W b->wpAny P .any ops Q fuel D s W:=by
 simp only [h_C,Bool.and_eq_true,decide_eq_true_eq] at hB;obtain ⟨⟨⟨⟨hm,aw⟩,ad⟩,ae⟩,hX⟩:=hB
 have hb:∀ i o,ops[i]?=some o->∀ e∈o.after,Region.binds .any e=true->e.on < i:=by
  intro i o J e he aE;have:=List.all_eq_true.1 ad i (List.mem_range.2 (Array.getElem?_eq_some_iff.1 J).1);simp only [J,Bool.and_eq_true] at this;have h1:=Array.all_eq_true_iff_forall_mem.1 this.1 e he;simpa [aE] using h1
 have hT:∀ i o,ops[i]?=some o->∀ j,m<=j->j < i->a_2 o j=true:=by
  intro i o J j L aF;have:=List.all_eq_true.1 ad i (List.mem_range.2 (Array.getElem?_eq_some_iff.1 J).1);simp only [J,Bool.and_eq_true] at this;have:=List.all_eq_true.1 this.2 j (List.mem_range.2 aF);simp only [Bool.or_eq_true,decide_eq_true_eq] at this;rcases this with h|h
  ·omega
  ·exact h
 have hS:m < ops.size->∀ j,j < m->∃ k o,j < k/\k<=m/\ops[k]?=some o/\a_2 o j=true:=by
  intro an j L;rw [Bool.or_eq_true] at ae;rcases ae with h|h
  ·simp at h;omega
  ·obtain ⟨k,hk,h1⟩:=List.any_eq_true.1 (List.all_eq_true.1 h j (List.mem_range.2 L));simp only [Bool.and_eq_true,decide_eq_true_eq] at h1;have aG:k < ops.size:=by have:=List.mem_range.1 hk;omega
   have J:ops[k]?=some ops[k]:=Array.getElem?_eq_getElem aG;rw [J] at h1;exact ⟨k,_,h1.1,by have:=List.mem_range.1 hk;omega,J,h1.2⟩
 have au:∀ i o,i < m->ops[i]?=some o->∀ j t,j < m->(ops[j]?).bind (·.dst)=some t->(t∈o.looksAt ops->a_2 o j=true/\j≠al)/\(i≠j->o.dst≠some t):=by
  intro i o hi J j t L V;have:=List.all_eq_true.1 hX i (List.mem_range.2 hi);simp only [J] at this;have:=List.all_eq_true.1 this j (List.mem_range.2 L);simp only [V,Bool.and_eq_true,Bool.or_eq_true,bne_iff_ne,beq_iff_eq,Bool.not_eq_true',List.contains_eq_mem,decide_eq_false_iff_not] at this;refine ⟨fun hl=>?_,fun ai=>?_⟩
  ·rcases this.1 with h|h
   ·exact absurd hl h
   ·exact h
  ·rcases this.2 with h|h
   ·exact absurd h ai
   ·exact h
 have aB:al < ops.size∨m<=al:=by omega
 intro fuel
 induction fuel with
 | zero=>
  intro D s W b hc H
  have aI:m=ops.size:=by
   rcases Nat.lt_or_ge m ops.size with c|c
   ·exact absurd (H.head m (Nat.le_refl _) c) (b_t hc m)
   ·omega
  have I:∀ j,j < m->D.getD j false=true:=fun j L=>d_0 (by rw [H.size];omega) (b_t hc j);rw [H.all I];have h:=ht W b H.below (fun c=>H.made c (I al c));rw [List.drop_eq_nil_of_le (by simp;omega)] at h;refine ⟨?_,h⟩;refine List.eq_nil_iff_forall_not_mem.2 fun i hi=>?_;exact b_t hc i (mem_ready.1 hi).1
 | succ fuel ih=>
  intro D s W b hc H
  refine ⟨fun hr=>by
   obtain ⟨i,hi⟩:=d_s hc;exact absurd hr (c_K H.size hb i hi),fun i hi=>?_⟩
  obtain ⟨ax,o,J,I⟩:=mem_ready.1 hi;have ap:i < ops.size:=(Array.getElem?_eq_some_iff.1 J).1;rcases Nat.lt_or_ge i m with ac|ac
  ·have af:=H.look (o:=o) (fun o h1 h2=>(ag o h1 h2).1) ar (fun j t L V hl=>(au i o ac J j t L V).1 hl) aB I;have he:=c_a (ops:=ops) (Region.noSelect_spec aw i o · · J) af;have ak:=b_z af
   have U:∀ (v:Value) (W':World),i≠al->(∀ t,o.dst=some t->A.tmps[t]?=some v)->Below W.heap.size W W'->wpAny P .any ops Q fuel (D.setIfInBounds i true) (s.put o.dst v) W':=by
    intro v W' M hv ao;refine ih _ _ W' b (a_0 ax hc) ⟨by simpa using H.size,fun j L ah=>by rw [getD_set_ne true (by omega)];exact H.head j L ah,by rw [a_J];exact H.fsize,by rw [b_s];exact H.fdef,fun t R=>?_,H.below.trans (ao.mono H.below.size),fun c hl=>?_,b_A J I H.closed⟩
    ·by_cases V:o.dst=some t
     ·have ai:dst≠some t:=by
       intro am;rcases Nat.lt_or_ge al m with c|c
       ·have ay:ops[al]?=some (ops[al]'(by omega)):=Array.getElem?_eq_getElem (by omega);exact (au i o ac J al t c (by rw [ay];exact ((ag _ c ay).1).trans am)).2 M V
       ·rw [ar c] at am;cases am
      rw [a_6 ai,hv t V,V]
      have an:t < s.tmps.size:=by
       rw [H.fsize];exact (Array.getElem?_eq_some_iff.1 (hv t V)).1
      exact b_F an
     ·rw [a_6 V];refine H.slot t fun j oj L O ab=>?_;have:=R j oj L O ab;by_cases c:i=j
      ·subst c;rw [J] at O;cases O;exact absurd ab V
      ·rw [getD_set_ne false c] at this;exact this
    ·rw [getD_set_ne false M] at hl;exact (H.made c hl).up ao
   unfold wpOp;simp only [J];by_cases M:i=al
   ·subst M;obtain ⟨V,hw,aA⟩:=ag o ac J;rw [if_pos (ak.trans hw)]
    left
    unfold Oper.wp;rw [he,aA W H.below,Oper.upon_value];refine ih _ _ _ W.heap.size (a_0 ax hc) ⟨by simpa using H.size,fun j L ah=>by rw [getD_set_ne true (by omega)];exact H.head j L ah,by rw [a_J];exact H.fsize,by rw [b_s];exact H.fdef,fun t R=>?_,H.below.alloc H.below.size obj,fun c _=>?_,b_A J I H.closed⟩
    ·rw [V];by_cases aa:dst=some t
     ·rw [aa];have h1:=aC t aa;rw [b_F h1,b_F (by rw [H.fsize];exact h1)]
     ·rw [a_6 aa,a_6 aa]
      have:=H.slot t fun j oj L O ab=>by
       have h2:=R j oj L O ab;by_cases c:i=j
       ·subst c;rw [J] at O;cases O;exact absurd (V.symm.trans ab) aa
       ·rw [getD_set_ne false c] at h2;exact h2
      rw [this,a_6 aa]
    ·refine ⟨by simp,H.below.size,?_⟩;show (W.heap.push obj)[W.heap.size]?=some obj;simp
   ·rcases az i o ac M J with ⟨hw,hf⟩|⟨hw,hu⟩
    ·rw [if_pos (ak.trans hw)]
     left
     obtain ⟨v,hv,hq⟩:=hf W H.below;unfold Oper.wp;unfold Oper.quietAt at hq;rw [he];generalize (execOp A.eval o).run P W=r at hq;cases r with
     | halt x w'=>exact hq.elim
     | ok n w'=>
      cases n <;> simp only [Oper.quietUpon] at hq <;> simp only [Oper.upon]
      case value u=>
       obtain ⟨e1,e2⟩:=hq;rw [e1,e2];exact U v W M hv (Below.refl _ _)
      case skip=>
       obtain ⟨e1,e2⟩:=hq;rw [e1,<- e2];exact U v W M hv (Below.refl _ _)
      case enter f args=>
       obtain ⟨e1,hc⟩:=hq;rw [e1];exact hc.mono fun e aD ⟨he,av⟩=>by subst he;exact U v aD M hv av
    ·rw [if_neg (by rw [ak,hw];exact Bool.false_ne_true)];exact U undef W M hu (Below.refl _ _)
  ·obtain rfl:i=m:=by
    rcases Nat.lt_or_ge m i with c|c
    ·have h1:=a_q (hT i o J m (Nat.le_refl _) c) I;have h2:=(b_l (H.head m (Nat.le_refl _) (by omega))).2;rw [h1] at h2;cases h2
    ·omega
   have hl:∀ d j,i - j=d->j < i->D.getD j false=true:=by
    intro d
    induction d using Nat.strongRecOn with
    | _ d ihd=>
     intro j V L;obtain ⟨k,ok,aH,hk,aj,aq⟩:=hS ap j L;rcases Nat.lt_or_ge k i with c|c
     ·have:=ihd (i - k) (by omega) k rfl c;exact a_q aq (H.closed k ok aj this)
     ·obtain rfl:k=i:=by omega
      rw [J] at aj;cases aj;exact a_q aq I
   have hl:=fun j L=>hl (i - j) j rfl L;have hs:=H.all hl;have h:=ht W b H.below (fun c=>H.made c (hl al c));rw [<- hs] at h;exact (g_K (P:=P) (Q:=Q) hb hT (fuel+1) i D s W H.size (Nat.le_refl _) hc hl H.head h).2 i hi
theorem h_D {w:World} {al m:Nat} {obj:Obj} {dst:Option Tmp} {A a:Act} {l:List Oper} {C:World->Prop} (hm:m<=ops.size) (hl:l=(ops.toList.take m).eraseIdx al) (hq:wpQuiet P ops C (fun a'=>a'=A) l a)
  (M:∀ o,al < m->ops[al]?=some o->o.dst=dst) (R:m<=al->dst=none) (W:World) (hW:Below w.heap.size w W):
  Inv ops w al m obj dst A (Array.replicate ops.size false) a W 0:=by
 obtain ⟨U,V,h3⟩:=c_7 l a hq;refine ⟨by simp,fun j _ L=>by simp [L],U.symm,V.symm,fun t hc=>?_,hW,fun c h=>?_,fun j o D h=>?_⟩
 ·have I:∀ j o,j < m->ops[j]?=some o->o.dst≠some t:=by
   intro j o L D J;have:=hc j o L D J;have H:j < ops.size:=(Array.getElem?_eq_some_iff.1 D).1;simp [H] at this
  rw [a_6 (fun J=>by
   rcases Nat.lt_or_ge al m with c|c
   ·have D:ops[al]?=some (ops[al]'(by omega)):=Array.getElem?_eq_getElem (by omega);exact I al _ c D ((M _ c D).trans J)
   ·rw [R c] at J;cases J),h3 t (fun O=>by
   obtain ⟨o,D,J⟩:=List.mem_filterMap.1 O;rw [hl] at D;have D:=List.mem_of_mem_eraseIdx D;obtain ⟨j,L,e⟩:=List.getElem_of_mem D;simp at L e;exact I j o (by omega) (by rw [Array.getElem?_eq_getElem (by omega),e]) J)]
 ·have H:al < ops.size:=by omega
  simp [H] at h
 ·have H:j < ops.size:=(Array.getElem?_eq_some_iff.1 D).1;simp [H] at h
theorem j_q {al m:Nat} {l:List Oper} (I:l=(ops.toList.take m).eraseIdx al) (i:Nat) (o:Oper) (L:i < m) (J:i≠al) (H:ops[i]?=some o):o∈l:=by
 rw [I]
 have D:(ops.toList.take m)[i]?=some o:=by
  rw [List.getElem?_take_of_lt L];simpa using H
 rcases Nat.lt_or_ge i al with c|c
 ·exact List.mem_of_getElem? (i:=i) (by rw [List.getElem?_eraseIdx_of_lt c];exact D)
 ·refine List.mem_of_getElem? (i:=i - 1) (l:=(ops.toList.take m).eraseIdx al) ?_;rw [List.getElem?_eraseIdx_of_ge (by omega),show i - 1+1=i by omega];exact D
/-- THE LAW: no block is made; the first m operations are quiet, the rest waits for all. -/
theorem p_J {id:Nat} {a A:Act} {w:World} {l:List Oper} (m n:Nat) (hm:P.follows .mixedOrders=true) (hn:a.tmps.size=n) (J:(h_C ops m m && c_8 ops n l)=true) (U:l=ops.toList.take m)
  (R:∀ F,Fam w F->wpQuiet P ops (fun W=>∃ d,W=F d) (fun a'=>a'=A) l a)
  (ht:∀ F,Fam w F->∀ d,wpList P ops Q (ops.toList.drop m) A (F d)):(Code.region id ops true).wp P Q a w:=by
 rw [Bool.and_eq_true] at J;have D:=J.1;simp only [h_C,Bool.and_eq_true,decide_eq_true_eq] at D
 have I:l=(ops.toList.take m).eraseIdx m:=by
  rw [U,List.eraseIdx_of_length_le (by simp;omega)]
 have H:∀ o,o∈l->∀ O b,o.op≠.select O b:=by
  intro o L O b;rw [U] at L;obtain ⟨j,V,e⟩:=List.getElem_of_mem (List.mem_of_mem_take L);exact Region.noSelect_spec D.1.1.1.2 j o O b (by rw [<- e];simp at V ⊢)
 refine wp_region_any hm (j_p (w:=w) (al:=m) (m:=m) (obj:=.cells #[] 0) (dst:=none) (A:=A) J.1 (fun i o hi M L=>j_o hn H J.2 R o (j_q I i o hi M L)) (fun o c=>absurd c (by omega)) (fun t h=>by cases h) (fun _=>rfl) (fun W b hW _=>?_) _ _ _ _ 0 ?_ (h_D D.1.1.1.1 I (R _ (d_L (Below.refl _ _))) (fun o c=>absurd c (by omega)) (fun _=>rfl) _ ⟨rfl,rfl,rfl,Nat.le_refl _,fun _ _=>rfl⟩))
 ·obtain ⟨d,rfl⟩:=d_r hW;exact ht _ (d_L (Below.refl _ _)) d
 ·simp
/-- THE LAW, with a block that is made by operation number al. -/
theorem i_k {id:Nat} {a A:Act} {w:World} {l:List Oper} {obj:Obj} (al m n d:Nat) (V:Oper) (hm:P.follows .mixedOrders=true) (hn:a.tmps.size=n) (J:(h_C ops al m && c_8 ops n l && decide (al < m) && decide (d < n))=true) (hl:l=(ops.toList.take m).eraseIdx al)
  (H:ops[al]?=some V) (hd:V.dst=some d) (hg:V.guard=none)
  (U:∀ W,Below w.heap.size w W->(execOp A.eval V).run P W = .ok (.value (d_F W.heap.size)) (W.alloc obj))
  (hw:∀ F,Fam w F->wpQuiet P ops (fun W=>∃ d,W=F d) (fun a'=>a'=A) l a)
  (ht:∀ W b,Below w.heap.size w W->Made w obj b W->wpList P ops Q (ops.toList.drop m) (A.put (some d) (d_F b)) W):(Code.region id ops true).wp P Q a w:=by
 simp only [Bool.and_eq_true,decide_eq_true_eq] at J;obtain ⟨⟨⟨J,O⟩,R⟩,ab⟩:=J;have I:=J;simp only [h_C,Bool.and_eq_true,decide_eq_true_eq] at I
 have M:∀ o,o∈l->∀ cs b,o.op≠.select cs b:=by
  intro o H cs b;rw [hl] at H;obtain ⟨j,hj,e⟩:=List.getElem_of_mem (List.mem_of_mem_take (List.mem_of_mem_eraseIdx H));exact Region.noSelect_spec I.1.1.1.2 j o cs b (by rw [<- e];simp at hj ⊢)
 have L:=hw _ (d_L (Below.refl _ _));have ac:=(c_7 l a L).1
 have D:∀ o,al < m->ops[al]?=some o->o.dst=some d:=fun o _ h=>by
  rw [H] at h;cases h;exact hd
 refine wp_region_any hm (j_p (w:=w) (al:=al) (m:=m) (obj:=obj) (dst:=some d) (A:=A) J (fun i o hi aa H=>j_o hn M O hw o (j_q hl i o hi aa H)) (fun o c h=>⟨D o c h,?_,?_⟩) (fun t h=>by cases h;rw [ac,hn];exact ab) (fun c=>by omega) (fun W b hW hM=>ht W b hW (hM R)) _ _ _ _ 0 ?_ (h_D I.1.1.1.1 hl L D (fun c=>by omega) _ ⟨rfl,rfl,rfl,Nat.le_refl _,fun _ _=>rfl⟩))
 ·rw [H] at h;cases h;unfold Region.wanted;rw [hg]
 ·rw [H] at h;cases h;exact U
 ·simp
theorem j_r {id:Nat} {a:Act} {w:World} {l:List Oper} (m n:Nat) (L:P.follows .mixedOrders=true) (J:a.tmps.size=n) (I:l=ops.toList.take m) (D:(h_C ops m m && c_8 ops n l)=true)
  (h:∃ A,(∀ F,Fam w F->wpQuiet P ops (fun W=>∃ d,W=F d) (fun H=>H=A) l a)/\∀ W,Below w.heap.size w W->wpList P ops Q (ops.toList.drop m) A W):(Code.region id ops true).wp P Q a w:=
 let ⟨A,h1,h2⟩:=h
 p_J (A:=A) m n L J D I h1 (fun _ hF d=>h2 _ (hF.below d))
theorem d_1 {id:Nat} {a:Act} {w:World} {l:List Oper} {D:Oper} (obj:Obj) (al m n d:Nat) (U:P.follows .mixedOrders=true) (R:a.tmps.size=n) (O:l=(ops.toList.take m).eraseIdx al) (H:(h_C ops al m && c_8 ops n l && decide (al < m) && decide (d < n))=true)
  (M:ops[al]?=some D) (J:D.dst=some d) (L:D.guard=none)
  (h:∃ A,(∀ F,Fam w F->wpQuiet P ops (fun W=>∃ d,W=F d) (fun I=>I=A) l a)/\(∀ W,(execOp A.eval D).run P W = .ok (.value (d_F W.heap.size)) (W.alloc obj))/\
   ∀ W b,Below w.heap.size w W->Made w obj b W->wpList P ops Q (ops.toList.drop m) (A.put (some d) (d_F b)) W):(Code.region id ops true).wp P Q a w:=
 let ⟨A,h1,h2,h3⟩:=h
 i_k (A:=A) (obj:=obj) al m n d D U R H O M J L (fun W _=>h2 W) h1 h3
theorem Made.frozen {w W:World} {b:Nat} {D:Array Value} {t:TypeId} (h:Made w (.cells D t) b W) (i:Nat):W.frozen? ⟨b,i,none⟩=false:=by
 unfold World.frozen?;simp [h.2.2]
theorem a_7 {B:Nat} {a w:World} (h:Below B a w) (b:Nat) (hb:B<=b) (x y:Value):Below B a ((w.setCell ⟨b,0,none⟩ x).setCell ⟨b,1,none⟩ y):=
 (h.setCell (p:=⟨b,0,none⟩) hb x).setCell (p:=⟨b,1,none⟩) hb y
theorem a_P {c:Code} {a:Act} {w:World} (h:∀ D,D=w->c.wp P Q a D):c.wp P Q a w:=h w rfl
theorem Made.cell {w W:World} {b i:Nat} {D:Array Value} {t:TypeId} {H:Nat×Nat} {v:Value} (h:Made w (.cells D t H) b W) (I:D[i]?=some v):W.cell? ⟨b,i,none⟩=some v:=by
 unfold World.cell?;simp only [h.2.2];simpa using I
end
section
variable {P : Program} {ops : Array Oper} {Q : Exit -> Act -> World -> Prop}
/-- What the operation number k hands back, and what stays true of it. -/
structure Told where
 k:Nat
 t:Tmp
 φ:Value->World->Prop
/-- The frame G with the told values in their slots. -/
def b_n (ks:List Told) (x:Nat->Value) (G:Act):Act:=ks.foldl (fun a e=>a.put (some e.t) (x e.k)) G
theorem e_r (x:Nat->Value):∀ (ks:List Told) (G:Act),(b_n ks x G).tmps.size=G.tmps.size
 | [],_=>rfl
 | e :: ks,G=>by rw [b_n,List.foldl_cons];exact (e_r x ks _).trans (a_J _ _ _)
theorem b_O (x:Nat->Value):∀ (ks:List Told) (G:Act),(b_n ks x G).defers=G.defers
 | [],_=>rfl
 | e :: ks,G=>by rw [b_n,List.foldl_cons];exact (b_O x ks _).trans (b_s _ _ _)
theorem h_E (x:Nat->Value) (t:Tmp):∀ (ks:List Told) (G:Act),(∀ e,e∈ks->e.t≠t)->(b_n ks x G).tmps[t]?=G.tmps[t]?
 | [],_,_=>rfl
 | e :: ks,G,h=>by
  rw [b_n,List.foldl_cons];refine (h_E x t ks _ fun e he=>h e (List.mem_cons_of_mem _ he)).trans (a_6 fun D=>h e List.mem_cons_self (Option.some.inj D))
theorem g_L (x:Nat->Value):∀ (ks:List Told) (G:Act),(ks.map (·.t)).Nodup->∀ e,e∈ks->e.t < G.tmps.size->(b_n ks x G).tmps[e.t]?=some (x e.k)
 | [],_,_,e,he,_=>by cases he
 | f :: ks,G,hn,e,he,hlt=>by
  rw [List.map_cons,List.nodup_cons] at hn;rw [b_n,List.foldl_cons];rcases List.mem_cons.1 he with rfl|he
  ·refine (h_E x e.t ks _ fun g D H=>hn.1 (List.mem_map.2 ⟨g,D,H⟩)).trans (b_F hlt)
  ·exact g_L x ks _ hn.2 e he (by rw [a_J];exact hlt)
/-- Another value for one of them. -/
def upd (x:Nat->Value) (k:Nat) (v:Value):Nat->Value:=fun j=>if j=k then v else x j
theorem d_2 (x:Nat->Value) (k:Nat) (v:Value) (t:Tmp):∀ (ks:List Told) (G D:Act),D.tmps[t]?=G.tmps[t]?->D.tmps.size=G.tmps.size->(∀ e,e∈ks->e.k=k->e.t≠t)->(b_n ks (upd x k v) D).tmps[t]?=(b_n ks x G).tmps[t]?
 | [],_,_,h,_,_=>h
 | e :: ks,G,D,h,hs,hk=>by
  rw [b_n,b_n,List.foldl_cons,List.foldl_cons];refine d_2 x k v t ks _ _ ?_ (by rw [a_J,a_J];exact hs) fun e he=>hk e (List.mem_cons_of_mem _ he);by_cases c:e.t=t
  ·have H:e.k≠k:=fun h=>hk e List.mem_cons_self h c;have J:upd x k v e.k=x e.k:=if_neg H;rw [J];subst c;by_cases d:e.t < G.tmps.size
   ·rw [b_F d,b_F (by rw [hs];exact d)]
   ·rw [Array.getElem?_eq_none (by rw [a_J,hs];exact Nat.le_of_not_lt d),Array.getElem?_eq_none (by rw [a_J];exact Nat.le_of_not_lt d)]
  ·rw [a_6 (fun I=>c (Option.some.inj I)),a_6 (fun I=>c (Option.some.inj I))];exact h
def a_N (ks:List Told) (i:Nat):Option Told:=ks.find? fun e=>e.k==i
/-- What is known, at an operation, of the told values that it looks at. -/
def c_n (ops:Array Oper) (ks:List Told) (o:Oper) (x:Nat->Value) (F:World->World):Prop:=∀ e,e∈ks->(o.looksAt ops).contains e.t=true->∀ d,e.φ (x e.k) (F d)
/-- The operation yields a value of which φ holds, and keeps what stood. -/
def a_g (P:Program) (φ:Value->World->Prop) (W:World):Result Next->Prop
 | .ok (.value u) W'=>φ u W'/\Below W.heap.size W W'
 | .ok .skip W'=>φ undef W'/\Below W.heap.size W W'
 | .ok (.enter f args) W'=>W'=W/\Calls P f args W (fun e W''=>∃ v,e = .returned v/\φ v W''/\Below W.heap.size W W'')
 | _=>False
def a_k (P:Program) (o:Oper) (a:Act) (W:World) (φ:Value->World->Prop):Prop:=a_g P φ W ((execOp a.eval o).run P W)
/-- The walk in the order of the text. -/
def a_8 (P:Program) (ops:Array Oper) (w:World) (ks:List Told) (x:Nat->Value) (G:Act):Nat->List Oper->Act->Prop
 | _,[],a=>a=G
 | i,o :: l,a=>match a_N ks i with
  | none=>∃ v,(∀ F,Fam w F->c_n ops ks o x F->if Region.wanted o (yielded ops a.tmps)=true then ∀ K:Act->Prop,K (a.put o.dst v)->o.quiet P a (fun W=>∃ d,W=F d) K else v=undef)/\a_8 P ops w ks x G (i+1) l (a.put o.dst v)
  | some e=>(∀ F,Fam w F->c_n ops ks o x F->Region.wanted o (yielded ops a.tmps)=true/\∀ d,a_k P o a (F d) e.φ)/\a_8 P ops w ks x G (i+1) l (a.put (some e.t) (x e.k))
/-- The dumps' shape, for a list of told operations: each is among the first m, writes the slot that it names; no two of them write one slot. -/
def i_l (ops:Array Oper) (ks:List Told) (m n:Nat):Bool:=
 (ks.all fun e=>decide (e.k < m) && decide (e.t < n) && (((ops[e.k]?).bind (·.dst))==some e.t)) && decide (ks.map (·.t)).Nodup && decide (ks.map (·.k)).Nodup
theorem c_b {ks:List Told} {i:Nat} {e:Told} (h:a_N ks i=some e):e∈ks/\e.k=i:=by
 unfold a_N at h;exact ⟨List.mem_of_find?_eq_some h,by simpa using List.find?_some h⟩
theorem d_M {ks:List Told} {i:Nat} (h:a_N ks i=none):∀ e,e∈ks->e.k≠i:=by
 unfold a_N at h;intro e he D;have:=List.find?_eq_none.1 h e he;simp [D] at this
theorem f_p {w:World} {ks:List Told} {x:Nat->Value} {G:Act}:∀ (l:List Oper) (i:Nat) (a:Act),(∀ j e,a_N ks (i+j)=some e->∀ o,l[j]?=some o->o.dst=some e.t)->a_8 P ops w ks x G i l a->
  G.tmps.size=a.tmps.size/\G.defers=a.defers/\∀ t,t∉r_i l->G.tmps[t]?=a.tmps[t]?
 | [],i,a,_,h=>by
  obtain rfl:a=G:=h;exact ⟨rfl,rfl,fun _ _=>rfl⟩
 | o :: l,i,a,hk,h=>by
  obtain ⟨v,L⟩:∃ v,a_8 P ops w ks x G (i+1) l (a.put o.dst v):=by
   rw [a_8] at h
   split at h
   ·obtain ⟨v,_,D⟩:=h;exact ⟨v,D⟩
   ·rename_i e he
    have:=hk 0 e he o rfl;rw [this];exact ⟨_,h.2⟩
  obtain ⟨J,D,R⟩:=f_p l (i+1) _ (fun j e he o O=>hk (j+1) e (by rw [show i+(j+1)=i+1+j by omega];exact he) o (by simpa using O)) L;refine ⟨by rw [J,a_J],by rw [D,b_s],fun t I=>?_⟩
  rw [R t (fun U=>I (by
   obtain ⟨x,M,H⟩:=List.mem_filterMap.1 U;exact List.mem_filterMap.2 ⟨x,List.mem_cons_of_mem _ M,H⟩)),a_6 (fun H=>I (List.mem_filterMap.2 ⟨o,List.mem_cons_self,H⟩))]
/-- What an operation yields in the last frame G, in the families of whose worlds the facts hold. -/
def l_t (P:Program) (ops:Array Oper) (w:World) (ks:List Told) (x:Nat->Value) (G:Act) (i:Nat) (o:Oper):Prop:=
 ∀ F,Fam w F->c_n ops ks o x F->match a_N ks i with
  | none=>(Region.wanted o (yielded ops G.tmps)=true/\∃ v,(∀ t,o.dst=some t->G.tmps[t]?=some v)/\∀ d,o.quietAt P G (fun W=>∃ d,W=F d) (F d) v)∨(Region.wanted o (yielded ops G.tmps)=false/\∀ t,o.dst=some t->G.tmps[t]?=some undef)
  | some e=>Region.wanted o (yielded ops G.tmps)=true/\∀ d,a_k P o G (F d) e.φ
theorem l_u {w:World} {ks:List Told} {x:Nat->Value} {G:Act} (n:Nat):∀ (l:List Oper) (i:Nat) (a:Act),a.tmps.size=n->(∀ o,o∈l->∀ cs b,o.op≠.select cs b)->c_8 ops n l=true->
  (∀ j e,a_N ks (i+j)=some e->∀ o,l[j]?=some o->o.dst=some e.t)->a_8 P ops w ks x G i l a->∀ j o,l[j]?=some o->l_t P ops w ks x G (i+j) o
 | [],_,_,_,_,_,_,_,j,o,ho=>by simp at ho
 | o :: l,i,a,hn,hs,hl,hk,h,j,p,I=>by
  have ab:=f_p (o :: l) i a hk h;rw [c_8,Bool.and_eq_true,Bool.and_eq_true] at hl;obtain ⟨⟨J,R⟩,hl⟩:=hl
  have M:∀ t,t∈o.looksAt ops->G.tmps[t]?=a.tmps[t]?:=fun t L=>ab.2.2 t (fun hm=>by
   have:=List.all_eq_true.1 R t hm;simp at this;exact this L)
  have he:=c_a (ops:=ops) (hs o List.mem_cons_self) M;have hw:=b_z M;have U:∀ j e,a_N ks (i+1+j)=some e->∀ o,l[j]?=some o->o.dst=some e.t:=fun j e he o ho=>hk (j+1) e (by rw [show i+(j+1)=i+1+j by omega];exact he) o (by simpa using ho)
  have H:∀ v,a_8 P ops w ks x G (i+1) l (a.put o.dst v)->∀ j p,(o :: l)[j+1]?=some p->l_t P ops w ks x G (i+(j+1)) p:=fun v hv j p I=>by
   have:=l_u n l (i+1) (a.put o.dst v) (by rw [a_J];exact hn) (fun o ho=>hs o (List.mem_cons_of_mem _ ho)) hl U hv j p (by simpa using I);rw [show i+(j+1)=i+1+j by omega];exact this
  have D:∀ v,a_8 P ops w ks x G (i+1) l (a.put o.dst v)->∀ t,o.dst=some t->G.tmps[t]?=some v:=by
   intro v hv t L;rw [L] at J hv;simp at J;rw [(f_p l (i+1) _ U hv).2.2 t J.2,b_F (by rw [hn];exact J.1)]
  rw [a_8] at h;cases V:a_N ks i with
  | none=>
   rw [V] at h;obtain ⟨v,h1,h2⟩:=h;cases j with
   | succ j=>exact H v h2 j p I
   | zero=>
    simp only [List.getElem?_cons_zero,Option.some.injEq] at I;subst I;intro F hF hf;rw [Nat.add_zero,V];have O:=h1 F hF hf;by_cases c:Region.wanted o (yielded ops a.tmps)=true
    ·rw [if_pos c] at O;obtain ⟨u,hu,hK⟩:=O (fun a'=>a'=a.put o.dst v) rfl
     left
     refine ⟨hw.trans c,u,?_,fun d=>?_⟩
     ·intro t L;rw [D v h2 t L];rw [L] at hK J;simp at J;have e1:(a.put (some t) u).tmps[t]?=(a.put (some t) v).tmps[t]?:=congrArg (fun a=>a.tmps[t]?) hK;rw [b_F (by rw [hn];exact J.1),b_F (by rw [hn];exact J.1)] at e1;exact e1.symm
     ·have:=hu _ ⟨d,rfl⟩;unfold Oper.quietAt at *;rw [he];exact this
    ·rw [if_neg c] at O
     right
     refine ⟨hw.trans (by simpa using c),fun t L=>?_⟩;rw [D v h2 t L,O]
  | some e=>
   rw [V] at h;have aa:=hk 0 e V o rfl;cases j with
   | succ j=>exact H (x e.k) (by rw [aa];exact h.2) j p I
   | zero=>
    simp only [List.getElem?_cons_zero,Option.some.injEq] at I;subst I;intro F hF hf;rw [Nat.add_zero,V];have O:=h.1 F hF hf;refine ⟨hw.trans O.1,fun d=>?_⟩;have:=O.2 d;unfold a_k at *;rw [he];exact this
theorem d_t:∀ (ks:List Told),(ks.map (·.k)).Nodup->∀ e,e∈ks->a_N ks e.k=some e
 | [],_,e,he=>by cases he
 | f :: ks,hn,e,he=>by
  rw [List.map_cons,List.nodup_cons] at hn;unfold a_N;rw [List.find?_cons];rcases List.mem_cons.1 he with rfl|he
  ·simp
  ·have D:f.k≠e.k:=fun h=>hn.1 (List.mem_map.2 ⟨e,he,h.symm⟩);have:(f.k==e.k)=false:=by simpa using D
   rw [this];exact d_t ks hn.2 e he
structure InvR (ops:Array Oper) (w:World) (ks:List Told) (m:Nat) (G:Act) (listed:Array Bool) (s:Act) (W:World) (x:Nat->Value):Prop where
 size:listed.size=ops.size
 head:∀ j,m<=j->j < ops.size->listed.getD j true=false
 fsize:s.tmps.size=G.tmps.size
 fdef:s.defers=G.defers
 slot:∀ t,(∀ j o,j < m->ops[j]?=some o->o.dst=some t->listed.getD j false=true)->s.tmps[t]?=G.tmps[t]?
 below:Below w.heap.size w W
 told:∀ e,e∈ks->listed.getD e.k false=true->e.φ (x e.k) W
 closed:∀ j o,ops[j]?=some o->listed.getD j false=true->∀ e∈o.after,Region.binds .any e=true->listed.getD e.on false=true
theorem InvR.all {w W:World} {ks:List Told} {m:Nat} {G s:Act} {D:Array Bool} {x:Nat->Value} (J:InvR ops w ks m G D s W x) (h:∀ j,j < m->D.getD j false=true):s=G:=by
 have H:s.tmps=G.tmps:=Array.ext_getElem? fun t=>J.slot t fun j _ L _ _=>h j L;have I:=J.fdef;cases s;cases G;simp only at H I;rw [H,I]
theorem a_n {w:World} {ks:List Told} {x:Nat->Value} {G a:Act} {i:Nat} {o:Oper} {l:List Oper} (J:a_N ks i=none) (H:Region.wanted o (yielded ops a.tmps)=true)
  (h:∃ v,(∀ F,Fam w F->c_n ops ks o x F->∀ K:Act->Prop,K (a.put o.dst v)->o.quiet P a (fun W=>∃ d,W=F d) K)/\a_8 P ops w ks x G (i+1) l (a.put o.dst v)):a_8 P ops w ks x G i (o :: l) a:=by
 rw [a_8,J];obtain ⟨v,D,I⟩:=h;exact ⟨v,fun F hF hf=>by rw [if_pos H];exact D F hF hf,I⟩
theorem a_p {w:World} {ks:List Told} {x:Nat->Value} {G a:Act} {i:Nat} {o:Oper} {l:List Oper} {e:Told} (J:a_N ks i=some e) (D:Region.wanted o (yielded ops a.tmps)=true)
  (H:∀ F,Fam w F->c_n ops ks o x F->∀ d,a_k P o a (F d) e.φ) (I:a_8 P ops w ks x G (i+1) l (a.put (some e.t) (x e.k))):a_8 P ops w ks x G i (o :: l) a:=by
 rw [a_8,J];exact ⟨fun F hF hf=>⟨D,H F hF hf⟩,I⟩
theorem b_f {w:World} {ks:List Told} {x:Nat->Value} {G a:Act} {i:Nat} (h:a=G):a_8 P ops w ks x G i [] a:=h
end
section
variable {P : Program} {ops : Array Oper} {Q : Exit -> Act -> World -> Prop}
def j_s (ops:Array Oper) (i0:Nat):Bool:=(List.range ops.size).all fun j=>j==i0 || match ops[j]?,ops[i0]? with
 | some oj,some o0=>a_2 o0 j || a_2 oj i0 || o0.apart ops oj
 | _,_=>false
theorem n_A {D:Nat} {L:Oper} (J:ops[D]?=some L) (h:j_s ops D=true):∀ j H,ops[j]?=some H->j≠D->a_2 L j=false->a_2 H D=false->L.apart ops H=true:=by
 intro j H O M I U;have R:=List.all_eq_true.1 h j (List.mem_range.2 (Array.getElem?_eq_some_iff.1 O).1);simp only [O,J,I,U,Bool.false_or,Bool.or_eq_true,beq_iff_eq,M,false_or] at R;exact R
end
section
variable {P : Program} {ops : Array Oper} {Q : Exit -> Act -> World -> Prop}
def i_m (ops:Array Oper) (L0:List Nat) (m:Nat):Bool:=
 decide (m<=ops.size) && Region.noSelect ops &&
 ((List.range ops.size).all fun i=>match ops[i]? with
  | none=>false
  | some o=>(o.after.all fun e=>!Region.binds .any e || decide (e.on < i)) && (List.range i).all fun j=>decide (j < m) || a_2 o j) &&
 (decide (ops.size<=m) || (List.range m).all fun j=>decide (j∈L0) || (List.range (m+1)).any fun k=>decide (j < k) && decide (k∉L0) && match ops[k]? with
  | none=>false
  | some o=>a_2 o j) &&
 ((List.range m).all fun i=>match ops[i]? with
  | none=>false
  | some o=>(List.range m).all fun j=>match (ops[j]?).bind (·.dst) with
   | none=>true
   | some t=>(!(o.looksAt ops).contains t || (a_2 o j && j != m)) && (i==j || o.dst != some t)) &&
 (L0.all fun i0=>decide (i0 < m) && match ops[i0]? with
  | none=>false
  | some o=>o.after.all fun e=>!Region.binds .any e || decide (e.on∉L0))
theorem c_c {o:Oper} {a:Act} {W:World} {φ ψ:Value->World->Prop} (h:∀ v W',φ v W'->ψ v W') (D:a_k P o a W φ):a_k P o a W ψ:=by
 unfold a_k at D ⊢;generalize (execOp a.eval o).run P W=r at D;cases r with
 | halt x w'=>exact D
 | ok n w'=>
  cases n <;> simp only [a_g] at D ⊢
  case value u=>exact ⟨h _ _ D.1,D.2⟩
  case skip=>exact ⟨h _ _ D.1,D.2⟩
  case enter f args=>exact ⟨D.1,D.2.mono fun L J ⟨v,he,H,I⟩=>⟨v,he,h _ _ H,I⟩⟩
theorem n_B {w:World} {ks:List Told} {m n:Nat} {G:(Nat->Value)->Act} {G0:Act} (L0:List Nat) (fc fa:List Nat) (ac:Value->Option Nat) (bj:∀ e,e∈ks->e.k∈fc->∀ o,ops[e.k]?=some o->∀ x F,Fam w F->c_n ops ks o x F->∀ d,a_k P o (G x) (F d) fun v W'=>e.φ v W'/\∀ b,ac v=some b->(F d).heap.size<=b∨∃ e0,e0∈ks/\e0.k∈fc/\(o.looksAt ops).contains e0.t=true/\ac (x e0.k)=some b) (bk:∀ e,e∈ks->e.k∈fa->∀ o,ops[e.k]?=some o->∀ x F,Fam w F->c_n ops ks o x F->∀ d,a_k P o (G x) (F d) fun v W'=>e.φ v W'/\∀ b,ac v=some b->(F d).heap.size<=b) (bd:∀ e,e∈ks->e.k∈fc∨e.k∈fa->∀ v W,e.φ v W->∀ b,ac v=some b->b < W.heap.size) (aS:∀ k,k∈fc->k∉fa) (a5:∀ M,M∈L0->M∉fc/\M∉fa) (hB:i_m ops L0 m=true) (aM:∀ M,M∈L0->∀ V,ops[M]?=some V->∀ j oj,ops[j]?=some oj->j≠M->a_2 V j=false->a_2 oj M=false->V.apart ops oj=true)
  (hQ:∀ M,M∈L0->∀ V,ops[M]?=some V->∀ c a w v,Q (.panic c) (a.put V.dst v) w->Q (.panic c) a w)
  (aV:∀ M,M∈L0->∀ V,ops[M]?=some V->∀ e,a_N ks M=some e->∀ W x,(∀ H,H∈ks->(V.looksAt ops).contains H.t=true->H.φ (x H.k) W)->∃ v,e.φ v W/\Yields P ops V v (G x))
  (hY:∀ M,M∈L0->∀ V,ops[M]?=some V->a_N ks M=none->∀ x,(∀ e,e∈ks->(V.looksAt ops).contains e.t=true->∃ W,e.φ (x e.k) W)->∃ v,(∀ t,V.dst=some t->(G x).tmps[t]?=some v)/\Yields P ops V v (G x)) (hK:i_l ops ks m n=true)
  (hφ:∀ e,e∈ks->∀ v W W',e.φ v W->Below W.heap.size W W'->e.φ v W') (hG:∀ x,G x=b_n ks x G0) (hn:G0.tmps.size=n)
  (bf:∀ x i o,i < m->ops[i]?=some o->l_t P ops w ks x (G x) i o)
  (ht:∀ W x,Below w.heap.size w W->(∀ e,e∈ks->e.φ (x e.k) W)->(∀ e H,e∈ks->H∈ks->e.k∈fc->H.k∈fa->∀ b,ac (x e.k)=some b->ac (x H.k)≠some b)->wpList P ops Q (ops.toList.drop m) (G x) W):
  ∀ (fuel:Nat) (D:Array Bool) (s:Act) (W:World) (x:Nat->Value),D.toList.count false=fuel->InvR ops w ks m (G x) D s W x->(∀ e H,e∈ks->H∈ks->e.k∈fc->H.k∈fa->D.getD e.k false=true->D.getD H.k false=true->∀ b,ac (x e.k)=some b->ac (x H.k)≠some b)->wpAny P .any ops Q fuel D s W:=by
 simp only [i_m,Bool.and_eq_true,decide_eq_true_eq] at hB;obtain ⟨⟨⟨⟨⟨hm,aB⟩,aG⟩,aL⟩,hX⟩,a6⟩:=hB
 have a1:∀ M,M∈L0->M < m/\∃ V,ops[M]?=some V/\∀ e∈V.after,Region.binds .any e=true->e.on∉L0:=fun M hi=>by
  have h:=List.all_eq_true.1 a6 M hi;cases ho:ops[M]? with
  | none=>rw [ho] at h;simp at h
  | some V=>
   rw [ho] at h;simp only [Bool.and_eq_true,decide_eq_true_eq] at h;refine ⟨h.1,V,rfl,fun e he aP=>?_⟩;have R:=Array.all_eq_true_iff_forall_mem.1 h.2 e he;simpa [aP] using R
 simp only [i_l,Bool.and_eq_true,decide_eq_true_eq] at hK;obtain ⟨⟨hK,bl⟩,a8⟩:=hK
 have af:∀ e,e∈ks->e.k < m/\e.t < n/\(ops[e.k]?).bind (·.dst)=some e.t:=by
  intro e he;have:=List.all_eq_true.1 hK e he;simp only [Bool.and_eq_true,decide_eq_true_eq,beq_iff_eq] at this;exact ⟨this.1.1,this.1.2,this.2⟩
 have hb:∀ i o,ops[i]?=some o->∀ e∈o.after,Region.binds .any e=true->e.on < i:=by
  intro i o ho e he bi;have:=List.all_eq_true.1 aG i (List.mem_range.2 (Array.getElem?_eq_some_iff.1 ho).1);simp only [ho,Bool.and_eq_true] at this;have R:=Array.all_eq_true_iff_forall_mem.1 this.1 e he;simpa [bi] using R
 have hT:∀ i o,ops[i]?=some o->∀ j,m<=j->j < i->a_2 o j=true:=by
  intro i o ho j hj aW;have:=List.all_eq_true.1 aG i (List.mem_range.2 (Array.getElem?_eq_some_iff.1 ho).1);simp only [ho,Bool.and_eq_true] at this;have:=List.all_eq_true.1 this.2 j (List.mem_range.2 aW);simp only [Bool.or_eq_true,decide_eq_true_eq] at this;rcases this with h|h
  ·omega
  ·exact h
 have hS:m < ops.size->∀ j,j < m->j∉L0->∃ k o,j < k/\k<=m/\k∉L0/\ops[k]?=some o/\a_2 o j=true:=by
  intro aZ j hj be;rw [Bool.or_eq_true] at aL;rcases aL with h|h
  ·simp at h;omega
  ·have h0:=List.all_eq_true.1 h j (List.mem_range.2 hj);rw [Bool.or_eq_true] at h0;have h0:=h0.resolve_left (by simpa using be);obtain ⟨k,hk,R⟩:=List.any_eq_true.1 h0;simp only [Bool.and_eq_true,decide_eq_true_eq] at R;have aK:k < ops.size:=by have:=List.mem_range.1 hk;omega
   have ho:ops[k]?=some ops[k]:=Array.getElem?_eq_getElem aK;rw [ho] at R;exact ⟨k,_,R.1.1,by have:=List.mem_range.1 hk;omega,R.1.2,ho,R.2⟩
 have aC:∀ i o,i < m->ops[i]?=some o->∀ j t,j < m->(ops[j]?).bind (·.dst)=some t->(t∈o.looksAt ops->a_2 o j=true)/\(i≠j->o.dst≠some t):=by
  intro i o hi ho j t hj hd;have:=List.all_eq_true.1 hX i (List.mem_range.2 hi);simp only [ho] at this;have:=List.all_eq_true.1 this j (List.mem_range.2 hj);simp only [hd,Bool.and_eq_true,Bool.or_eq_true,bne_iff_ne,beq_iff_eq,Bool.not_eq_true',List.contains_eq_mem,decide_eq_false_iff_not] at this;refine ⟨fun hl=>?_,fun ak=>?_⟩
  ·rcases this.1 with h|h
   ·exact absurd hl h
   ·exact h.1
  ·rcases this.2 with h|h
   ·exact absurd h ak
   ·exact h
 have ah:∀ x,(G x).tmps.size=n:=fun x=>by rw [hG,e_r];exact hn
 have a9:∀ x e,e∈ks->(G x).tmps[e.t]?=some (x e.k):=fun x e he=>by
  rw [hG];exact g_L x ks G0 bl e he (by rw [hn];exact (af e he).2.1)
 intro fuel
 induction fuel with
 | zero=>
  intro D s W x hc J hA
  have bo:m=ops.size:=by
   rcases Nat.lt_or_ge m ops.size with c|c
   ·exact absurd (J.head m (Nat.le_refl _) c) (b_t hc m)
   ·omega
  have L:∀ j,j < m->D.getD j false=true:=fun j hj=>d_0 (by rw [J.size];omega) (b_t hc j);rw [J.all L];have h:=ht W x J.below (fun e he=>J.told e he (L _ (af e he).1)) (fun e H he U hf an=>hA e H he U hf an (L _ (af e he).1) (L _ (af H U).1));rw [List.drop_eq_nil_of_le (by simp;omega)] at h;refine ⟨?_,h⟩;refine List.eq_nil_iff_forall_not_mem.2 fun i hi=>?_;exact b_t hc i (mem_ready.1 hi).1
 | succ fuel ih=>
  intro D s W x hc J hA;by_cases hE:∃ M,M∈L0/\M∈Region.ready .any ops D
  ·obtain ⟨M,ao,hE⟩:=hE;obtain ⟨aE,V,ab,L⟩:=mem_ready.1 hE;have aO:=(a1 M ao).1;replace aM:=aM M ao V ab;replace hQ:=hQ M ao V ab;replace hY:=hY M ao V ab;replace aV:=aV M ao V ab
   have aw:∀ t,t∈V.looksAt ops->s.tmps[t]?=(G x).tmps[t]?:=fun t ap=>
    J.slot t fun j oj hj aa hd=>a_q ((aC M V aO ab j t hj (by rw [aa];exact hd)).1 ap) L
   have he:=c_a (ops:=ops) (Region.noSelect_spec aB M V · · ab) aw;have au:=b_z aw;cases aQ:a_N ks M with
   | none=>
    have a2:=aQ
    obtain ⟨v,hv,hy⟩:=hY a2 x fun e O ap=>by
     obtain ⟨R,_,h3⟩:=af e O;exact ⟨W,J.told e O (a_q ((aC M V aO ab e.k e.t R h3).1 (by simpa using ap)) L)⟩
    have aT:Yields P ops V v s:=by
     rcases hy with ⟨R,h2⟩|⟨R,h2⟩
     ·exact .inl ⟨au.trans R,fun w=>by rw [he];exact h2 w⟩
     ·exact .inr ⟨au.trans R,h2⟩
    refine wpAny_first (md:=.any) ab (Region.noSelect_spec aB) (fun c a w h=>hQ c a w v h) fuel D s W (fun j oj hj ak aH aU=>aM j oj hj ak (by
     cases aq:a_2 V j with
     | false=>rfl
     | true=>
      have R:=a_q aq L;have h2:=(b_l aH).2;rw [R] at h2;cases h2) (by
     cases aq:a_2 oj M with
     | false=>rfl
     | true=>
      unfold a_2 at aq;obtain ⟨e,aj,ad⟩:=Array.any_eq_true'.1 aq;simp only [Bool.and_eq_true,beq_iff_eq] at ad;exact absurd ad.2 (aU e aj ad.1))) hE aT ?_
    have az:=d_M a2
    have I:∀ e,e∈ks->e.k≠M->(D.setIfInBounds M true).getD e.k false=true->D.getD e.k false=true:=fun e _ ak h=>by
     rw [getD_set_ne false (Ne.symm ak)] at h;exact h
    refine ih _ _ W x (a_0 aE hc) ⟨by simpa using J.size,fun j hj ax=>by rw [getD_set_ne true (by omega)];exact J.head j hj ax,by rw [a_J];exact J.fsize,by rw [b_s];exact J.fdef,fun t ag=>?_,J.below,fun e O hl=>J.told e O (I e O (az e O) hl),b_A ab L J.closed⟩ (fun e H he U hf an R h2=>hA e H he U hf an (I e he (az e he) R) (I H U (az H U) h2));by_cases hd:V.dst=some t
    ·rw [hv t hd,hd];exact b_F (by rw [J.fsize];exact (Array.getElem?_eq_some_iff.1 (hv t hd)).1)
    ·rw [a_6 hd];refine J.slot t fun j oj hj aa am=>?_;have:=ag j oj hj aa am;by_cases c:M=j
     ·subst c;rw [ab] at aa;cases aa;exact absurd am hd
     ·rw [getD_set_ne false c] at this;exact this
   | some e=>
    obtain ⟨O,aX⟩:=c_b aQ;subst aX;have aI:V.dst=some e.t:=by have:=(af e O).2.2;rw [ab] at this;exact this
    have ar:∀ H,H∈ks->H.k=e.k->H=e:=fun H U hk=>by
     have R:=d_t ks a8 H U;rw [hk,aQ] at R;exact (Option.some.inj R).symm
    obtain ⟨v,hv,hy⟩:=aV e aQ W x fun H ae ap=>by
     obtain ⟨R,_,h3⟩:=af H ae;exact J.told H ae (a_q ((aC e.k V aO ab H.k H.t R h3).1 (by simpa using ap)) L)
    have aT:Yields P ops V v s:=by
     rcases hy with ⟨R,h2⟩|⟨R,h2⟩
     ·exact .inl ⟨au.trans R,fun w=>by rw [he];exact h2 w⟩
     ·exact .inr ⟨au.trans R,h2⟩
    refine wpAny_first (md:=.any) ab (Region.noSelect_spec aB) (fun c a w h=>hQ c a w v h) fuel D s W (fun j oj hj ak aH aU=>aM j oj hj ak (by
     cases aq:a_2 V j with
     | false=>rfl
     | true=>
      have R:=a_q aq L;have h2:=(b_l aH).2;rw [R] at h2;cases h2) (by
     cases aq:a_2 oj e.k with
     | false=>rfl
     | true=>
      unfold a_2 at aq;obtain ⟨e,aj,ad⟩:=Array.any_eq_true'.1 aq;simp only [Bool.and_eq_true,beq_iff_eq] at ad;exact absurd ad.2 (aU e aj ad.1))) hE aT ?_
    have I:∀ H,H∈ks->H.k≠e.k->(D.setIfInBounds e.k true).getD H.k false=true->D.getD H.k false=true:=fun H _ ak h=>by
     rw [getD_set_ne false (Ne.symm ak)] at h;exact h
    refine ih _ _ W (upd x e.k v) (a_0 aE hc) ⟨by simpa using J.size,fun j hj ax=>by rw [getD_set_ne true (by omega)];exact J.head j hj ax,by rw [a_J,J.fsize,ah,ah],by rw [b_s,J.fdef,hG,hG,b_O,b_O],fun t ag=>?_,J.below,fun H ae hl=>?_,b_A ab L J.closed⟩ (fun e1 e2 aj ad aA av l1 l2=>by
     have n1:e1.k≠e.k:=fun h=>(a5 _ ao).1 (h ▸ aA);have n2:e2.k≠e.k:=fun h=>(a5 _ ao).2 (h ▸ av);show ∀ b,ac (if e1.k=e.k then v else x e1.k)=some b->ac (if e2.k=e.k then v else x e2.k)≠some b;rw [if_neg n1,if_neg n2];exact hA e1 e2 aj ad aA av (I e1 aj n1 l1) (I e2 ad n2 l2))
    ·by_cases hd:V.dst=some t
     ·rw [hd];obtain rfl:e.t=t:=by rw [aI] at hd;exact Option.some.inj hd
      rw [a9 _ e O,b_F (by rw [J.fsize,ah];exact (af e O).2.1)];show some v=some (if e.k=e.k then v else x e.k);rw [if_pos rfl]
     ·rw [a_6 hd,hG,d_2 x e.k v t ks G0 G0 rfl rfl (fun H U aK hh=>hd (by rw [aI,<- hh,ar H U aK])),<- hG];refine J.slot t fun j oj hj aa am=>?_;have:=ag j oj hj aa am;by_cases c:e.k=j
      ·subst c;rw [ab] at aa;cases aa;exact absurd am hd
      ·rw [getD_set_ne false c] at this;exact this
    ·by_cases c:H.k=e.k
     ·obtain rfl:=ar H ae c;show H.φ (if H.k=H.k then v else x H.k) W;rw [if_pos rfl];exact hv
     ·show H.φ (if H.k=e.k then v else x H.k) W;rw [if_neg c];exact J.told H ae (I H ae c hl)
  refine ⟨fun hr=>by
   obtain ⟨i,hi⟩:=d_s hc;exact absurd hr (c_K J.size hb i hi),fun i hi=>?_⟩
  obtain ⟨aE,o,ho,L⟩:=mem_ready.1 hi;have a7:i < ops.size:=(Array.getElem?_eq_some_iff.1 ho).1;rcases Nat.lt_or_ge i m with aJ|aJ
  ·have aw:∀ t,t∈o.looksAt ops->s.tmps[t]?=(G x).tmps[t]?:=fun t ap=>
    J.slot t fun j oj hj aa hd=>a_q ((aC i o aJ ho j t hj (by rw [aa];exact hd)).1 ap) L
   have he:=c_a (ops:=ops) (Region.noSelect_spec aB i o · · ho) aw;have au:=b_z aw
   have ay:c_n ops ks o x (e_K W):=fun e O ap d=>by
    obtain ⟨R,_,h3⟩:=af e O;have hl:=a_q ((aC i o aJ ho e.k e.t R h3).1 (by simpa using ap)) L;exact hφ e O _ _ _ (J.told e O hl) (a_W W d)
   have aN:=bf x i o aJ ho (e_K W) (d_L J.below) ay;obtain ⟨d0,aR⟩:=d_r (Below.refl W.heap.size W)
   have I:∀ e,e∈ks->e.k≠i->(D.setIfInBounds i true).getD e.k false=true->D.getD e.k false=true:=fun e _ ak h=>by
    rw [getD_set_ne false (Ne.symm ak)] at h;exact h
   unfold wpOp;simp only [ho];cases aF:a_N ks i with
   | none=>
    rw [aF] at aN;have az:=d_M aF
    have ai:∀ (v:Value) (W':World),(∀ t,o.dst=some t->(G x).tmps[t]?=some v)->Below W.heap.size W W'->wpAny P .any ops Q fuel (D.setIfInBounds i true) (s.put o.dst v) W':=by
     intro v W' hv aD;refine ih _ _ W' x (a_0 aE hc) ⟨by simpa using J.size,fun j hj ax=>by rw [getD_set_ne true (by omega)];exact J.head j hj ax,by rw [a_J];exact J.fsize,by rw [b_s];exact J.fdef,fun t ag=>?_,J.below.trans (aD.mono J.below.size),fun e O hl=>hφ e O _ _ _ (J.told e O (I e O (az e O) hl)) aD,b_A ho L J.closed⟩ (fun e H he U hf an R h2=>hA e H he U hf an (I e he (az e he) R) (I H U (az H U) h2));by_cases hd:o.dst=some t
     ·rw [hv t hd,hd];exact b_F (by rw [J.fsize];exact (Array.getElem?_eq_some_iff.1 (hv t hd)).1)
     ·rw [a_6 hd];refine J.slot t fun j oj hj aa am=>?_;have:=ag j oj hj aa am;by_cases c:i=j
      ·subst c;rw [ho] at aa;cases aa;exact absurd am hd
      ·rw [getD_set_ne false c] at this;exact this
    rcases aN with ⟨hw,v,hv,hq⟩|⟨hw,hu⟩
    ·rw [if_pos (au.trans hw)]
     left
     have hq:=hq d0;rw [<- aR] at hq;unfold Oper.wp;unfold Oper.quietAt at hq;rw [he];generalize (execOp (G x).eval o).run P W=r at hq;cases r with
     | halt x w'=>exact hq.elim
     | ok n w'=>
      cases n <;> simp only [Oper.quietUpon] at hq <;> simp only [Oper.upon]
      case value u=>
       obtain ⟨e1,e2⟩:=hq;rw [e1,e2];exact ai v W hv (Below.refl _ _)
      case skip=>
       obtain ⟨e1,e2⟩:=hq;rw [e1,<- e2];exact ai v W hv (Below.refl _ _)
      case enter f args=>
       obtain ⟨e1,hc⟩:=hq;rw [e1];exact hc.mono fun e a3 ⟨he,d,bb⟩=>by subst he;rw [bb];exact ai v _ hv (a_W W d)
    ·rw [if_neg (by rw [au,hw];exact Bool.false_ne_true)];exact ai undef W hu (Below.refl _ _)
   | some e=>
    rw [aF] at aN;obtain ⟨O,aX⟩:=c_b aF;subst aX;have aI:o.dst=some e.t:=by have:=(af e O).2.2;rw [ho] at this;exact this
    have ar:∀ H,H∈ks->H.k=e.k->H=e:=fun H U hk=>by
     have R:=d_t ks a8 H U;rw [hk,aF] at R;exact (Option.some.inj R).symm
    have ai:∀ (v:Value) (W':World),e.φ v W'->Below W.heap.size W W'->((e.k∈fc->∀ b,ac v=some b->W.heap.size<=b∨∃ e0,e0∈ks/\e0.k∈fc/\(o.looksAt ops).contains e0.t=true/\ac (x e0.k)=some b)/\(e.k∈fa->∀ b,ac v=some b->W.heap.size<=b))->wpAny P .any ops Q fuel (D.setIfInBounds e.k true) (s.put o.dst v) W':=by
     intro v W' hv aD a0
     refine ih _ _ W' (upd x e.k v) (a_0 aE hc) ⟨by simpa using J.size,fun j hj ax=>by rw [getD_set_ne true (by omega)];exact J.head j hj ax,by rw [a_J,J.fsize,ah,ah],by rw [b_s,J.fdef,hG,hG,b_O,b_O],fun t ag=>?_,J.below.trans (aD.mono J.below.size),fun H ae hl=>?_,b_A ho L J.closed⟩ (fun e1 e2 aj ad aA av l1 l2=>by
      show ∀ b,ac (if e1.k=e.k then v else x e1.k)=some b->ac (if e2.k=e.k then v else x e2.k)≠some b;intro b;by_cases c1:e1.k=e.k
      ·have c2:e2.k≠e.k:=fun h=>aS e1.k aA (by rw [c1,<- h];exact av);rw [if_pos c1,if_neg c2];intro h h';have p2:=bd e2 ad (.inr av) _ _ (J.told e2 ad (I e2 ad c2 l2)) b h';rcases a0.1 (c1 ▸ aA) b h with p1|⟨e0,k0,f0,g0,h0⟩
       ·omega
       ·obtain ⟨q1,_,q3⟩:=af e0 k0;exact hA e0 e2 k0 ad f0 av (a_q ((aC e.k o aJ ho e0.k e0.t q1 q3).1 (by simpa using g0)) L) (I e2 ad c2 l2) b h0 h'
      ·rw [if_neg c1];by_cases c2:e2.k=e.k
       ·rw [if_pos c2];intro h h';have p1:=a0.2 (c2 ▸ av) b h';have p2:=bd e1 aj (.inl aA) _ _ (J.told e1 aj (I e1 aj c1 l1)) b h;omega
       ·rw [if_neg c2];exact hA e1 e2 aj ad aA av (I e1 aj c1 l1) (I e2 ad c2 l2) b)
     ·by_cases hd:o.dst=some t
      ·rw [hd];obtain rfl:e.t=t:=by rw [aI] at hd;exact Option.some.inj hd
       rw [a9 _ e O,b_F (by rw [J.fsize,ah];exact (af e O).2.1)];show some v=some (if e.k=e.k then v else x e.k);rw [if_pos rfl]
      ·rw [a_6 hd,hG,d_2 x e.k v t ks G0 G0 rfl rfl (fun H U aK hh=>hd (by rw [aI,<- hh,ar H U aK])),<- hG];refine J.slot t fun j oj hj aa am=>?_;have:=ag j oj hj aa am;by_cases c:e.k=j
       ·subst c;rw [ho] at aa;cases aa;exact absurd am hd
       ·rw [getD_set_ne false c] at this;exact this
     ·by_cases c:H.k=e.k
      ·obtain rfl:=ar H ae c;show H.φ (if H.k=H.k then v else x H.k) W';rw [if_pos rfl];exact hv
      ·show H.φ (if H.k=e.k then v else x H.k) W';rw [if_neg c];exact hφ H ae _ _ _ (J.told H ae (I H ae c hl)) aD
    obtain ⟨hw,hy⟩:=aN;rw [if_pos (au.trans hw)]
    left
    have hy:=hy d0;rw [<- aR] at hy
    have hy:a_k P o (G x) W fun v W'=>e.φ v W'/\((e.k∈fc->∀ b,ac v=some b->W.heap.size<=b∨∃ e0,e0∈ks/\e0.k∈fc/\(o.looksAt ops).contains e0.t=true/\ac (x e0.k)=some b)/\(e.k∈fa->∀ b,ac v=some b->W.heap.size<=b)):=by
     by_cases hf:e.k∈fc
     ·have R:=bj e O hf o ho x (e_K W) (d_L J.below) ay d0;rw [<- aR] at R;exact c_c (fun v W' h=>⟨h.1,fun _=>h.2,fun h'=>absurd h' (aS _ hf)⟩) R
     ·by_cases an:e.k∈fa
      ·have R:=bk e O an o ho x (e_K W) (d_L J.below) ay d0;rw [<- aR] at R;exact c_c (fun v W' h=>⟨h.1,fun h'=>absurd h' hf,fun _=>h.2⟩) R
      ·exact c_c (fun v W' h=>⟨h,fun h'=>absurd h' hf,fun h'=>absurd h' an⟩) hy
    unfold Oper.wp;unfold a_k at hy;rw [he];generalize bm:(execOp (G x).eval o).run P W=r at hy;cases r with
    | halt x w'=>exact hy.elim
    | ok n w'=>
     cases n <;> simp only [a_g] at hy <;> simp only [Oper.upon]
     case value u=>exact ai u w' hy.1.1 hy.2 hy.1.2
     case skip=>exact ai undef w' hy.1.1 hy.2 hy.1.2
     case enter f args=>
      obtain ⟨e1,hc⟩:=hy;rw [e1]
      exact hc.mono fun H a3 ⟨v,U,R,h2⟩=>by
       subst U;exact ai v a3 R.1 h2 R.2
  ·obtain rfl:i=m:=by
    rcases Nat.lt_or_ge m i with c|c
    ·have R:=a_q (hT i o ho m (Nat.le_refl _) c) L;have h2:=(b_l (J.head m (Nat.le_refl _) (by omega))).2;rw [R] at h2;cases h2
    ·omega
   have a4:∀ d j,i - j=d->j < i->j∉L0->D.getD j false=true:=by
    intro d
    induction d using Nat.strongRecOn with
    | _ d ihd=>
     intro j hd hj aW;obtain ⟨k,ok,bn,hk,bg,aY,ba⟩:=hS a7 j hj aW;rcases Nat.lt_or_ge k i with c|c
     ·have:=ihd (i - k) (by omega) k rfl c bg;exact a_q ba (J.closed k ok aY this)
     ·obtain rfl:k=i:=by omega
      rw [ho] at aY;cases aY;exact a_q ba L
   have bh:∀ M,M∈L0->D.getD M false=true:=fun M ao=>by
    obtain ⟨aO,V,ab,bc⟩:=a1 M ao;rcases Bool.eq_false_or_eq_true (D.getD M false) with h|h
    ·exact h
    ·exfalso;apply hE;refine ⟨M,ao,mem_ready.2 ⟨?_,V,ab,fun e he aP=>a4 _ e.on rfl (by have:=hb M V ab e he aP;omega) (bc e he aP)⟩⟩;have aZ:M < D.size:=by rw [J.size];omega
     rw [Array.getD_eq_getD_getElem?,Array.getElem?_eq_getElem aZ] at h ⊢;exact h
   have hl:∀ j,j < i->D.getD j false=true:=fun j hj=>by
    by_cases c:j∈L0
    ·exact bh j c
    ·exact a4 _ j rfl hj c
   have hs:=J.all hl;have h:=ht W x J.below (fun e he=>J.told e he (hl _ (af e he).1)) (fun e H he U hf an=>hA e H he U hf an (hl _ (af e he).1) (hl _ (af H U).1));rw [<- hs] at h;exact (g_K (P:=P) (Q:=Q) hb hT (fuel+1) i D s W J.size (Nat.le_refl _) hc hl J.head h).2 i hi
/-- THE LAW: the first m operations read, call, or make memory; those that are told (ks) hand back what differs from world to world; told rows (fc) lie apart from blocks that are made (fa); the rest waits for all. -/
theorem s_H {id:Nat} {a:Act} {w:World} {l:List Oper} (ks:List Told) (m n:Nat) (hm:P.follows .mixedOrders=true) (hn:a.tmps.size=n) (M:l=ops.toList.take m) (V:List Nat) (hB:(i_m ops V m && c_8 ops n l)=true) (aq:(V.all fun D=>j_s ops D)=true)
  (hQ:∀ D,D∈V->∀ J,ops[D]?=some J->∀ c a w v,Q (.panic c) (a.put J.dst v) w->Q (.panic c) a w) (hK:i_l ops ks m n=true) (U fa:List Nat) (I:Value->Option Nat) (ap:∀ e,e∈ks->e.k∈U∨e.k∈fa->∀ v W,e.φ v W->∀ b,I v=some b->b < W.heap.size) (ac:∀ k,k∈U->k∉fa) (ag:∀ D,D∈V->D∉U/\D∉fa)
  (hφ:∀ e,e∈ks->∀ v W W',e.φ v W->Below W.heap.size W W'->e.φ v W')
  (h:∃ G:(Nat->Value)->Act,(∀ D,D∈V->∀ J,ops[D]?=some J->∀ e,a_N ks D=some e->∀ W x,(∀ O,O∈ks->(J.looksAt ops).contains O.t=true->O.φ (x O.k) W)->∃ v,e.φ v W/\Yields P ops J v (G x))/\(∀ D,D∈V->∀ J,ops[D]?=some J->a_N ks D=none->∀ x,(∀ e,e∈ks->(J.looksAt ops).contains e.t=true->∃ W,e.φ (x e.k) W)->∃ v,(∀ t,J.dst=some t->(G x).tmps[t]?=some v)/\Yields P ops J v (G x))/\(∀ x,a_8 P ops w ks x (G x) 0 l a)/\(∀ x,G x=b_n ks x (G fun _=>undef))/\(∀ e,e∈ks->e.k∈U->∀ o,ops[e.k]?=some o->∀ x F,Fam w F->c_n ops ks o x F->∀ d,a_k P o (G x) (F d) fun v W'=>e.φ v W'/\∀ b,I v=some b->(F d).heap.size<=b∨∃ e0,e0∈ks/\e0.k∈U/\(o.looksAt ops).contains e0.t=true/\I (x e0.k)=some b)/\(∀ e,e∈ks->e.k∈fa->∀ o,ops[e.k]?=some o->∀ x F,Fam w F->c_n ops ks o x F->∀ d,a_k P o (G x) (F d) fun v W'=>e.φ v W'/\∀ b,I v=some b->(F d).heap.size<=b)/\
   ∀ W x,Below w.heap.size w W->(∀ e,e∈ks->e.φ (x e.k) W)->(∀ e O,e∈ks->O∈ks->e.k∈U->O.k∈fa->∀ b,I (x e.k)=some b->I (x O.k)≠some b)->wpList P ops Q (ops.toList.drop m) (G x) W):(Code.region id ops true).wp P Q a w:=by
 obtain ⟨G,an,hY,h1,h2,af,ah,h3⟩:=h;rw [Bool.and_eq_true] at hB;have ad:=hB.1;simp only [i_m,Bool.and_eq_true,decide_eq_true_eq] at ad;have R:=hK;simp only [i_l,Bool.and_eq_true,decide_eq_true_eq] at R
 have hk:∀ j e,a_N ks (0+j)=some e->∀ o,l[j]?=some o->o.dst=some e.t:=by
  intro j e he o L;obtain ⟨aj,aa⟩:=c_b he;have:=List.all_eq_true.1 R.1.1 e aj;simp only [Bool.and_eq_true,decide_eq_true_eq,beq_iff_eq] at this;have ak:j < m:=by rw [Nat.zero_add] at aa;rw [<- aa];exact this.1.1
  rw [M,List.getElem?_take_of_lt ak] at L;have h4:=this.2;rw [aa,Nat.zero_add,show ops[j]?=some o by simpa using L] at h4;exact h4
 have ae:∀ o,o∈l->∀ cs b,o.op≠.select cs b:=by
  intro o L cs b;rw [M] at L;obtain ⟨j,hj,e⟩:=List.getElem_of_mem (List.mem_of_mem_take L);exact Region.noSelect_spec ad.1.1.1.1.2 j o cs b (by rw [<- e];simp at hj ⊢)
 have ai:∀ x,(G x).tmps.size=n:=fun x=>by rw [(f_p l 0 a hk (h1 x)).1,hn]
 have ab:=f_p l 0 a hk (h1 fun _=>undef);refine wp_region_any hm (n_B (w:=w) (ks:=ks) (m:=m) (n:=n) (G:=G) (G0:=G fun _=>undef) V U fa I af ah ap ac ag hB.1 (fun D hi J am=>n_A am (List.all_eq_true.1 aq D hi)) hQ an hY hK hφ h2 (ai _) (fun x i o hi L=>?_) h3 _ _ _ _ (fun _=>undef) ?_ ⟨by simp,fun j _ hj=>by simp [hj],ab.1.symm,ab.2.1.symm,fun t hc=>?_,⟨rfl,rfl,rfl,Nat.le_refl _,fun _ _=>rfl⟩,fun e he M=>?_,fun j o L M=>?_⟩ (fun e O he _ _ _ M _=>?_))
 ·have:=l_u n l 0 a hn ae hB.2 hk (h1 x) i o (by rw [M,List.getElem?_take_of_lt hi];simpa using L);rw [Nat.zero_add] at this;exact this
 ·simp
 ·refine (ab.2.2 t fun ao=>?_).symm;obtain ⟨o,L,hd⟩:=List.mem_filterMap.1 ao;rw [M] at L;obtain ⟨j,hj,e⟩:=List.getElem_of_mem L;simp at hj e;have H:j < ops.size:=by omega
  have:=hc j o (by omega) (by rw [Array.getElem?_eq_getElem H,e]) hd;simp [H] at this
 ·have:=List.all_eq_true.1 R.1.1 e he;simp only [Bool.and_eq_true,decide_eq_true_eq,beq_iff_eq] at this;have H:e.k < ops.size:=by have:=this.1.1;omega
  simp [H] at M
 ·have H:j < ops.size:=(Array.getElem?_eq_some_iff.1 L).1;simp [H] at M
 ·have:=List.all_eq_true.1 R.1.1 e he;simp only [Bool.and_eq_true,decide_eq_true_eq,beq_iff_eq] at this;have H:e.k < ops.size:=by have:=this.1.1;omega
  simp [H] at M
theorem t_w {id:Nat} {a:Act} {w:World} {l:List Oper} (ks:List Told) (m n:Nat) (hm:P.follows .mixedOrders=true) (hn:a.tmps.size=n) (hl:l=ops.toList.take m) (I:List Nat) (O:(i_m ops I m && c_8 ops n l)=true) (M:(I.all fun D=>j_s ops D)=true)
  (hQ:∀ D,D∈I->∀ H,ops[D]?=some H->∀ c a w v,Q (.panic c) (a.put H.dst v) w->Q (.panic c) a w) (hK:i_l ops ks m n=true)
  (hφ:∀ e,e∈ks->∀ v W W',e.φ v W->Below W.heap.size W W'->e.φ v W')
  (h:∃ G:(Nat->Value)->Act,(∀ D,D∈I->∀ H,ops[D]?=some H->∀ e,a_N ks D=some e->∀ W x,(∀ J,J∈ks->(H.looksAt ops).contains J.t=true->J.φ (x J.k) W)->∃ v,e.φ v W/\Yields P ops H v (G x))/\(∀ D,D∈I->∀ H,ops[D]?=some H->a_N ks D=none->∀ x,(∀ e,e∈ks->(H.looksAt ops).contains e.t=true->∃ W,e.φ (x e.k) W)->∃ v,(∀ t,H.dst=some t->(G x).tmps[t]?=some v)/\Yields P ops H v (G x))/\(∀ x,a_8 P ops w ks x (G x) 0 l a)/\(∀ x,G x=b_n ks x (G fun _=>undef))/\
   ∀ W x,Below w.heap.size w W->(∀ e,e∈ks->e.φ (x e.k) W)->wpList P ops Q (ops.toList.drop m) (G x) W):(Code.region id ops true).wp P Q a w:=by
 obtain ⟨G,L,U,R,V,h3⟩:=h;exact s_H ks m n hm hn hl I O M hQ hK [] [] (fun _=>none) (fun _ _ h=>absurd h (by simp)) (fun _ h=>absurd h List.not_mem_nil) (fun _ _=>⟨List.not_mem_nil,List.not_mem_nil⟩) hφ ⟨G,L,U,R,V,fun _ _ h=>absurd h List.not_mem_nil,fun _ _ h=>absurd h List.not_mem_nil,fun W x hb hf _=>h3 W x hb hf⟩
theorem rel {id:Nat} {a:Act} {w:World} {l:List Oper} (ks:List Told) (m n:Nat) (O:P.follows .mixedOrders=true) (M:a.tmps.size=n) (J:l=ops.toList.take m) (D:(i_m ops [] m && c_8 ops n l)=true) (hK:i_l ops ks m n=true)
  (hφ:∀ e,e∈ks->∀ v W W',e.φ v W->Below W.heap.size W W'->e.φ v W')
  (h:∃ G:(Nat->Value)->Act,(∀ x,a_8 P ops w ks x (G x) 0 l a)/\(∀ x,G x=b_n ks x (G fun _=>undef))/\
   ∀ W x,Below w.heap.size w W->(∀ e,e∈ks->e.φ (x e.k) W)->wpList P ops Q (ops.toList.drop m) (G x) W):(Code.region id ops true).wp P Q a w:=by
 obtain ⟨G,H,I,L⟩:=h;exact t_w ks m n O M J [] D rfl (fun _ h=>absurd h List.not_mem_nil) hK hφ ⟨G,fun _ h=>absurd h List.not_mem_nil,fun _ h=>absurd h List.not_mem_nil,H,I,L⟩
theorem l_v {id:Nat} {a:Act} {w:World} {l:List Oper} (ks:List Told) (m n:Nat) (hm:P.follows .mixedOrders=true) (hn:a.tmps.size=n) (hl:l=ops.toList.take m) (D:Nat) (L:Oper) (M:ops[D]?=some L) (aa:D < m) (R:a_N ks D=none) (U:(i_m ops [D] m && c_8 ops n l)=true) (O:j_s ops D=true)
  (hQ:∀ c a w v,Q (.panic c) (a.put L.dst v) w->Q (.panic c) a w) (hK:i_l ops ks m n=true)
  (hφ:∀ e,e∈ks->∀ v W W',e.φ v W->Below W.heap.size W W'->e.φ v W')
  (h:∃ G:(Nat->Value)->Act,(∀ x,(∀ e,e∈ks->(L.looksAt ops).contains e.t=true->∃ W,e.φ (x e.k) W)->∃ v,(∀ t,L.dst=some t->(G x).tmps[t]?=some v)/\Yields P ops L v (G x))/\(∀ x,a_8 P ops w ks x (G x) 0 l a)/\(∀ x,G x=b_n ks x (G fun _=>undef))/\
   ∀ W x,Below w.heap.size w W->(∀ e,e∈ks->e.φ (x e.k) W)->wpList P ops Q (ops.toList.drop m) (G x) W):(Code.region id ops true).wp P Q a w:=by
 obtain ⟨G,hY,V,h2,h3⟩:=h
 have J:∀ j,j∈[D]->∀ o,ops[j]?=some o->j=D/\o=L:=fun j I o H=>by
  have e:j=D:=by simpa using I
  subst e;rw [M] at H;exact ⟨rfl,(Option.some.inj H).symm⟩
 refine t_w ks m n hm hn hl [D] U (by simpa using O) (fun j I o H=>?_) hK hφ ⟨G,fun j I o H e he=>?_,fun j I o H _=>?_,V,h2,h3⟩
 ·obtain ⟨_,rfl⟩:=J j I o H;exact hQ
 ·obtain ⟨rfl,_⟩:=J j I o H;rw [R] at he;cases he
 ·obtain ⟨_,rfl⟩:=J j I o H;exact hY
end
theorem k_u:NumT Tryz.prog 24 23 .i64 8:=⟨Tryz.underlying24,by kernel_rfl⟩
/-- A tensor: a shape, and as many numbers as that has. -/
abbrev isP (d x:List Int):Prop:=goodN (ntl d)/\x.length=a_e (ntl d)
theorem a_d {w D:World} {v:Value} {b o:Nat} (h:w.cell? ⟨b,o,none⟩=some v) (H:Below w.heap.size w D):D.cell? ⟨b,o,none⟩=some v:=a_h H h
theorem p_K (a b:Int):(a==b)=decide (a=b):=by
 by_cases h:a=b <;> simp [h]
theorem a_D (s t:Value) (d x:List Int) (hd:RI d) (w:World) (V:Nums .i64 w s d) (ht:Nums .i64 w t x):
  Calls Tryz.prog 97 #[.agg #[s,t]] w fun e L=>e = .returned (.bool (decide (isP d x)))/\Below w.heap.size w L:=by
 have M:Hid (Nums .i64 w s d/\RI d):=⟨V,hd⟩
 obtain ⟨p,n,c,rfl,HA⟩:=V.lst;obtain ⟨p2,U,c2,rfl,HB⟩:=ht.lst;have HL:Hid (x.length=U):=HB.out.1;clear V ht hd;by_cases J:goodN (ntl d)
 ·have HG:Hid (goodN (ntl d)):=J;obtain ⟨N,R⟩:∃ N,a_e (ntl d)=N:=⟨_,rfl⟩
  have er:decide (isP d x)=((U:Int)==(N:Int)):=by
   rw [p_K];exact decide_eq_decide.2 ⟨fun h=>by have:=h.2;rw [HL.out,R] at this;omega,fun h=>⟨J,by rw [HL.out,R];omega⟩⟩
  rw [er];have HN:Hid (f_a (ntl d)=N):=by show _=_;rw [b_0 J];exact R
  clear er R J;go_enter Tryz.func97,Tryz.ntmps97;go_wp2_with fail
  refine a_P (fun D H=>?_);have O:Below w.heap.size w D:=by rw [H];go_grown
  have I:D.cell? ⟨w.heap.size,0,none⟩=some (.slice p n c)/\D.cell? ⟨w.heap.size,1,none⟩=some (.slice p2 U c2):=by rw [H];simp [go_sem]
  have x0:=I.1;have x1:=I.2;clear H I
  have cg:∀ m,Calls Tryz.prog 85 #[.slice p n c] (D.drewN m) fun e L=>e = .returned (.bool true)/\L=D.drewN m:=fun m=>by
   have:=b_X _ d M.out.2 (D.drewN m) (M.out.1.up (a_l O m));rw [decide_eq_true HG.out] at this;exact this
  have cz:∀ m,Calls Tryz.prog 87 #[.slice p n c] (D.drewN m) fun e L=>e = .returned (.int .i64 (N:Int))/\L=D.drewN m:=fun m=>by
   have:=size_any _ d M.out.2 (D.drewN m) (M.out.1.up (a_l O m));rw [HN.out] at this;exact this
  go_quiet (first|exact Calls.quiet_of_same (cg _)|exact Calls.quiet_of_same (cz _))
  go_wp2;go_ret;exact ⟨rfl,a_l O nq⟩
 ·rw [decide_eq_false (fun h:isP d x=>J h.1)];have HG:Hid (¬ goodN (ntl d)):=J;clear J;go_enter Tryz.func97,Tryz.ntmps97;go_wp2_with fail
  refine a_P (fun D H=>?_);have O:Below w.heap.size w D:=by rw [H];go_grown
  have I:D.cell? ⟨w.heap.size,0,none⟩=some (.slice p n c)/\D.cell? ⟨w.heap.size,1,none⟩=some (.slice p2 U c2):=by rw [H];simp [go_sem]
  have x0:=I.1;have x1:=I.2;clear H I
  have cg:∀ m,Calls Tryz.prog 85 #[.slice p n c] (D.drewN m) fun e L=>e = .returned (.bool false)/\L=D.drewN m:=fun m=>by
   have:=b_X _ d M.out.2 (D.drewN m) (M.out.1.up (a_l O m));rw [decide_eq_false HG.out] at this;exact this
  go_quiet (exact Calls.quiet_of_same (cg _))
  go_wp2;go_ret;exact ⟨rfl,a_l O nq⟩
theorem b_h (v:Value) (l:List Int) (M:l.length<=1073741824) (w:World) (L:Nums .i64 w v l):
  Calls Tryz.prog 75 #[v] w fun e O=>∃ I,e = .returned I/\OwnK .i64 3 O w.heap.size I l/\Below w.heap.size w O:=by
 have J:=fun (w:World) a n c=>Lib.run_eql_slice_nil (P:=Tryz.prog) w 30 3 a n c 0 0 Tryz.underlying30;have D:Hid (Nums .i64 w v l/\l.length<=1073741824):=⟨L,M⟩
 rcases L with ⟨rfl,rfl⟩|⟨ad,c,rfl,h⟩
 ·go_enter Tryz.func75,Tryz.ntmps75;go_wp2;go_ret;exact ⟨_,rfl,OwnK.nil _ _ _ _,Below.refl _ _⟩
 ·obtain ⟨n,H⟩:∃ n,l.length=n:=⟨_,rfl⟩
  have HE:Hid (l.length=n):=H;rw [H] at D ⊢;clear h M H;have R:Hid (OwnK .i64 3 (w.alloc (.cells #[] 3)) w.heap.size (.slice (some ⟨w.heap.size,0,none⟩) 0 0) []):=b_5 w [] 0 rfl (by decide);have H6:Hid (Nums .i64 (w.alloc (.cells #[] 3)) (.slice (some ad) n c) l):=D.out.1.up (a_b w _);have U:Hid (([]:List Int).length+l.length<=1073741824):=by show _<=_;rw [HE.out];simpa using D.out.2
  have V:Hid (Below w.heap.size w (w.alloc (.cells #[] 3))):=a_b w _;go_enter Tryz.func75,Tryz.ntmps75;go_wp2_with (at_builtin;refine a_F i_e (by decide) rfl (.tmp 5) (.tmp 6) rfl w.heap.size _ [] rfl R.out _ l rfl H6.out U.out (by simp) w V.out ?_;intro v0 w0 H0 B0)
  refine bodyPost_ret (v:=v0) (by simp [results,Tryz.results75,go_sem]) rfl ⟨_,rfl,H0.out,B0⟩
theorem g_c (v:Value) (l:List Int) (M:l.length<=1073741824) (w:World) (L:Nums .i64 w v l):
  Calls Tryz.prog 91 #[v] w fun e O=>∃ I,e = .returned I/\OwnK .i64 23 O w.heap.size I l/\Below w.heap.size w O:=by
 have J:=fun (w:World) a n c=>Lib.run_eql_slice_nil (P:=Tryz.prog) w 24 23 a n c 0 0 Tryz.underlying24;have D:Hid (Nums .i64 w v l/\l.length<=1073741824):=⟨L,M⟩
 rcases L with ⟨rfl,rfl⟩|⟨ad,c,rfl,h⟩
 ·go_enter Tryz.func91,Tryz.ntmps91;go_wp2;go_ret;exact ⟨_,rfl,OwnK.nil _ _ _ _,Below.refl _ _⟩
 ·obtain ⟨n,H⟩:∃ n,l.length=n:=⟨_,rfl⟩
  have HE:Hid (l.length=n):=H;rw [H] at D ⊢;clear h M H;have R:Hid (OwnK .i64 23 (w.alloc (.cells #[] 23)) w.heap.size (.slice (some ⟨w.heap.size,0,none⟩) 0 0) []):=b_5 w [] 0 rfl (by decide);have H6:Hid (Nums .i64 (w.alloc (.cells #[] 23)) (.slice (some ad) n c) l):=D.out.1.up (a_b w _);have U:Hid (([]:List Int).length+l.length<=1073741824):=by show _<=_;rw [HE.out];simpa using D.out.2
  have V:Hid (Below w.heap.size w (w.alloc (.cells #[] 23))):=a_b w _;go_enter Tryz.func91,Tryz.ntmps91;go_wp2_with (at_builtin;refine a_F k_u (by decide) rfl (.tmp 5) (.tmp 6) rfl w.heap.size _ [] rfl R.out _ l rfl H6.out U.out (by simp) w V.out ?_;intro v0 w0 H0 B0)
  refine bodyPost_ret (v:=v0) (by simp [results,Tryz.results91,go_sem]) rfl ⟨_,rfl,H0.out,B0⟩
end Go.Proofs.YtjlofobnmjompaaGreatDoor.Wd
namespace Go.Proofs.YtjlofobnmjompaaGreatDoor.Fx
open Go.RowKit
/-- What is beyond the ends is held there. -/
def hold (x:Int):Int:=if 9223372036854775807 < x then 9223372036854775807 else if x < -9223372036854775808 then -9223372036854775808 else x
/-- A quotient of sizes, rounded: to the nearest, of two that are as near to the even one. -/
def rq (n d:Nat):Nat:=if d < 2*(n % d)∨(2*(n % d)=d/\n / d % 2=1) then n / d+1 else n / d
def sg (b:Bool) (n:Nat):Int:=if b then -(n:Int) else n
def differ (a b:Int):Bool:=decide (a < 0) != decide (b < 0)
def mulI (a b:Int):Int:=hold (sg (differ a b) (rq (a.natAbs*b.natAbs) 4294967296))
def f_U (a:Int):Int:=if a=0 then 0 else if a < 0 then -9223372036854775808 else 9223372036854775807
def n_i (a b:Int):Int:=if b=0 then f_U a else hold (sg (differ a b) (rq (a.natAbs*4294967296) b.natAbs))
def lim (b:Bool):Int:=if b then -9223372036854775808 else 9223372036854775807
/-- A quotient and its rest, rounded. -/
def nr (q r d:Nat):Nat:=if d < 2*r∨(2*r=d/\q % 2=1) then q+1 else q
def InR (a:Int):Prop:=-9223372036854775808<=a/\a<=9223372036854775807
theorem hold_in {x:Int} (D:-9223372036854775808<=x) (H:x<=9223372036854775807):hold x=x:=by unfold hold;split <;> (try split) <;> omega
theorem f_q {x:Int} (h:9223372036854775807<=x):hold x=9223372036854775807:=by unfold hold;split <;> (try split) <;> omega
theorem f_r {x:Int} (h:x<=-9223372036854775808):hold x = -9223372036854775808:=by unfold hold;split <;> (try split) <;> omega
theorem hold_rng (x:Int):-9223372036854775808<=hold x/\hold x<=9223372036854775807:=by unfold hold;split <;> (try split) <;> omega
/-- The sign of a bitwise operation's value is its highest bit. -/
theorem f_V (v:BitVec 64):IntKind.i64.wrap (v.toNat:Int) < 0↔v.msb=true:=by
 rw [IntKind.wrap_i64,BitVec.msb_eq_decide];have:=v.isLt;simp only [decide_eq_true_eq];omega
theorem d_3 (a:Int) (D:-9223372036854775808<=a) (H:a<=9223372036854775807):(BitVec.ofInt 64 a).msb=decide (a < 0):=by
 rw [BitVec.msb_eq_decide,BitVec.toNat_ofInt];rw [Bool.eq_iff_iff];simp only [decide_eq_true_eq];omega
theorem g_d (v:BitVec 64):BitVec.ofInt 64 (IntKind.i64.wrap (v.toNat:Int))=v:=by
 apply BitVec.eq_of_toNat_eq;rw [BitVec.toNat_ofInt,IntKind.wrap_i64];have:=v.isLt;omega
theorem g_e (a b:Int):differ a b=true↔(a < 0/\0<=b)∨(0<=a/\b < 0):=by
 unfold differ;by_cases D:a < 0 <;> by_cases H:b < 0 <;> simp [D,H] <;> omega
theorem c_L (a b c d:Int) (D:InR a) (hb:InR b) (H:InR c) (I:InR d):
  bits .and .i64 (bits .xor .i64 a b) (bits .xor .i64 c d) < 0↔((a < 0/\0<=b)∨(0<=a/\b < 0))/\((c < 0/\0<=d)∨(0<=c/\d < 0)):=by
 rw [<- g_e,<- g_e];show IntKind.i64.wrap ((BitVec.ofInt 64 (IntKind.i64.wrap ((BitVec.ofInt 64 a ^^^ BitVec.ofInt 64 b).toNat:Int)) &&& BitVec.ofInt 64 (IntKind.i64.wrap ((BitVec.ofInt 64 c ^^^ BitVec.ofInt 64 d).toNat:Int))).toNat:Int) < 0↔_;rw [f_V,g_d,g_d,BitVec.msb_and,BitVec.msb_xor,BitVec.msb_xor,d_3 a D.1 D.2,d_3 b hb.1 hb.2,d_3 c H.1 H.2,d_3 d I.1 I.2];unfold differ;cases decide (a < 0) <;> cases decide (b < 0) <;> cases decide (c < 0) <;> cases decide (d < 0) <;> simp
theorem b_1 (n:Int):InR (wrap64 n):=by unfold InR wrap64;omega
theorem n_C (a b:Int) (H:InR a) (hb:InR b) (h:bits .and .i64 (bits .xor .i64 a (wrap64 (a+b))) (bits .xor .i64 b (wrap64 (a+b))) < 0):
  hold (a+b)=if a < 0 then -9223372036854775808 else 9223372036854775807:=by
 rw [c_L a _ b _ H (b_1 _) hb (b_1 _)] at h;unfold InR at H hb;unfold wrap64 at h;by_cases D:a < 0
 ·rw [if_pos D,f_r];omega
 ·rw [if_neg D,f_q];omega
theorem n_D (a b:Int) (D:InR a) (hb:InR b) (h:0<=bits .and .i64 (bits .xor .i64 a (wrap64 (a+b))) (bits .xor .i64 b (wrap64 (a+b)))):
  wrap64 (a+b)=hold (a+b):=by
 have H:=mt (c_L a _ b _ D (b_1 (a+b)) hb (b_1 (a+b))).2 (by omega);unfold InR at D hb;unfold wrap64 at H;unfold wrap64 hold
 split <;> (try split) <;> omega
theorem n_E (a b:Int) (D:InR a) (hb:InR b) (h:bits .and .i64 (bits .xor .i64 a b) (bits .xor .i64 a (wrap64 (a - b))) < 0):
  hold (a - b)=if a < 0 then -9223372036854775808 else 9223372036854775807:=by
 rw [c_L a _ a _ D hb D (b_1 _)] at h;unfold InR at D hb;unfold wrap64 at h;by_cases H:a < 0
 ·rw [if_pos H,f_r];omega
 ·rw [if_neg H,f_q];omega
theorem n_F (a b:Int) (D:InR a) (hb:InR b) (h:0<=bits .and .i64 (bits .xor .i64 a b) (bits .xor .i64 a (wrap64 (a - b)))):
  wrap64 (a - b)=hold (a - b):=by
 have H:=mt (c_L a _ a _ D hb D (b_1 (a - b))).2 (by omega);unfold InR at D hb;unfold wrap64 at H;unfold wrap64 hold
 split <;> (try split) <;> omega
theorem n_G (n d:Nat):nr (n / d) (n % d) d=rq n d:=rfl
theorem g_M (b:Bool) (n:Nat) (h:9223372036854775807 < n):lim b=hold (sg b n):=by
 cases b
 ·rw [f_q (by unfold sg;simp;omega)];rfl
 ·rw [f_r (by unfold sg;simp;omega)];rfl
theorem p_L (n:Nat) (h:n<=9223372036854775807):(n:Int)=hold (sg false n):=by
 rw [hold_in (by simp [sg];try omega) (by simp [sg];try omega)];rfl
theorem l_w (n:Nat) (h:n<=9223372036854775807):-(n:Int)=hold (sg true n):=by
 rw [hold_in (by simp [sg];try omega) (by simp [sg];try omega)];rfl
theorem joinN (D H:Nat) (I:D < 4294967296) (M:H < 18446744073709551616):
  bits .or .u64 ((D:Int)*4294967296) ((H:Int) / 4294967296)=((D*4294967296+H / 4294967296:Nat):Int):=by
 have J:∀ n:Int,0<=n->n < 2 ^ 64->IntKind.u64.wrap n=n:=fun n L I=>by rw [IntKind.wrap_u64];omega
 rw [bits_join .u64 64 (by decide) J 32 _ _ (by omega) (by omega) (by omega) (by omega) (by omega) (by omega)];omega
theorem s_I (a:Nat) (D:a < 18446744073709551616):bits .and .u64 (a:Int) 4294967295=((a % 4294967296:Nat):Int):=by
 have h:=bits_and_u64_nat a 4294967295 D (by omega);have e:a &&& 4294967295=a % 4294967296:=Nat.and_two_pow_sub_one_eq_mod a 32;rw [e] at h;exact h
theorem p_M (D H:Nat):(D*18446744073709551616+H) / 4294967296=D*4294967296+H / 4294967296:=by omega
theorem p_N (H D:Nat):(H*18446744073709551616+D) % 4294967296=D % 4294967296:=by omega
theorem r_k (q r d:Nat):nr q r d<=q+1:=by unfold nr;split <;> omega
theorem s_J (q r d:Nat):q<=nr q r d:=by unfold nr;split <;> omega
theorem r_l (n d:Nat):n / d<=rq n d:=by rw [<- n_G];exact s_J _ _ _
theorem rq_le (n d:Nat):rq n d<=n / d+1:=by rw [<- n_G];exact r_k _ _ _
theorem n_H (H D:Nat) (I:H < 2147483648) (J:D < 18446744073709551616):rq (H*18446744073709551616+D) 4294967296 < 18446744073709551616:=by
 have:=rq_le (H*18446744073709551616+D) 4294967296;omega
/-- A product of 2^95 or more is beyond the ends. -/
theorem p_O (a b:Int) (x y:Nat) (D:a.natAbs=x) (H:b.natAbs=y) (h:2147483648<=x*y / 18446744073709551616):lim (differ a b)=mulI a b:=by
 unfold mulI;rw [D,H];have:=r_l (x*y) 4294967296;exact g_M _ _ (by omega)
theorem n_I (a b:Int) (x y:Nat) (I:a.natAbs=x) (J:b.natAbs=y) (D H:Nat) (L:D=x*y / 18446744073709551616) (M:H=x*y % 18446744073709551616):
  hold (sg (differ a b) (rq (D*18446744073709551616+H) 4294967296))=mulI a b:=by
 unfold mulI;rw [I,J,show D*18446744073709551616+H=x*y by omega]
theorem l_x (a b:Int) (D:InR a) (hb:InR b) (h:bits .and .i64 (bits .xor .i64 a (wrap64 (a+b))) (bits .xor .i64 b (wrap64 (a+b))) < 0):
  lim (decide (a < 0))=hold (a+b):=by
 rw [n_C a b D hb h];unfold lim;by_cases h:a < 0 <;> simp [h]
theorem l_y (a b:Int) (D:InR a) (hb:InR b) (h:bits .and .i64 (bits .xor .i64 a b) (bits .xor .i64 a (wrap64 (a - b))) < 0):
  lim (decide (a < 0))=hold (a - b):=by
 rw [n_E a b D hb h];unfold lim;by_cases h:a < 0 <;> simp [h]
theorem n_J (a:Int) (h:¬ a=0):lim (decide (a < 0))=f_U a:=by
 unfold f_U lim;rw [if_neg h];by_cases h:a < 0 <;> simp [h]
theorem p_P (a b x y:Int) (I:(a.natAbs:Int)=x) (J:(b.natAbs:Int)=y) (hb:b≠0) (H:0 < y) (h:y<=x / 2147483648):lim (differ a b)=n_i a b:=by
 unfold n_i;rw [if_neg hb];apply g_M;have:=r_l (a.natAbs*4294967296) b.natAbs
 have D:9223372036854775808<=a.natAbs*4294967296 / b.natAbs:=by
  rw [Nat.le_div_iff_mul_le (by omega)];omega
 omega
theorem n_K (a b x y:Int) (m:Nat) (I:(a.natAbs:Int)=x) (J:(b.natAbs:Int)=y) (hb:b≠0) (L:nr ((x*4294967296) / y).toNat ((x*4294967296) % y).toNat y.toNat=m):hold (sg (differ a b) m)=n_i a b:=by
 unfold n_i;subst I J L;have c:(4294967296:Int)=((4294967296:Nat):Int):=rfl
 have D:((a.natAbs:Int)*4294967296 / (b.natAbs:Int)).toNat=a.natAbs*4294967296 / b.natAbs:=by
  rw [c,<- Int.natCast_mul,<- Int.natCast_ediv,Int.toNat_natCast]
 have H:((a.natAbs:Int)*4294967296 % (b.natAbs:Int)).toNat=a.natAbs*4294967296 % b.natAbs:=by
  rw [c,<- Int.natCast_mul,<- Int.natCast_emod,Int.toNat_natCast]
 rw [if_neg hb,<- n_G,D,H,Int.toNat_natCast]
theorem e_T (a b:Int):InR (mulI a b):=by unfold mulI;exact hold_rng _
end Go.Proofs.YtjlofobnmjompaaGreatDoor.Fx
namespace Go.Proofs.YtjlofobnmjompaaGreatDoor.Wd
open Go.RowKit
/-- make of no number, with room. -/
theorem d_4 {P:Program} {t e:TypeId} {k:IntKind} {b:Nat} (T:NumT P t e k b) (M:b<=8) (w:World) {ops:Array Oper} {rest:List Oper} {o:Oper} {a:Act} {Q:Exit->Act->World->Prop}
  (hg:o.guard=none) (l c:Operand) (L:o.op=Op.makeSlice t l c) (R O:IntKind) (C:Int) (n:Nat) (hl:a.eval l = .int R 0) (hc:a.eval c = .int O C) (hC:C=(n:Int)) (hn:n<=1073741824)
  (hK:∀ D,Hid (OwnK k e D w.heap.size (.slice (some ⟨w.heap.size,0,none⟩) 0 n) [])->Below w.heap.size w D->wpList P ops Q rest (a.put o.dst (.slice (some ⟨w.heap.size,0,none⟩) 0 n)) D):
  wpList P ops Q (o :: rest) a w:=by
 obtain ⟨i0,hi,H,J,I⟩:=g_x T;have hm:b*n<=8*1073741824:=Nat.mul_le_mul M hn;refine wpList_make_own w hg l c t L w.heap.size e i0 (.int k 0) 1 T.ht hi H J R O C n hl hc hC (by rw [I];omega) (by unfold maxLen;omega) (Nat.le_refl _) ?_;intro D V h2;exact hK D V (Below.grown (Below.refl _ _) h2 (Nat.le_refl _) (fun j U=>by cases U))
theorem l_z {d s:List Nat} (H:∀ x,x∈d->x<=4096) (I:∀ x,x∈s->x<=4096):∀ k a,a∈h_k d s k->a<=k*16777216
 | 0,a,h=>by simp [h_k] at h;omega
 | k+1,a,h=>by
  rw [h_k] at h;obtain ⟨b,hb,h⟩:=List.mem_flatMap.1 h;obtain ⟨n,L,rfl⟩:=List.mem_map.1 h;have M:=l_z H I k b hb;have O:=List.mem_range.1 L
  have R:d.getD k 0<=4096:=by
   rcases Nat.lt_or_ge k d.length with D|D
   ·rw [a_r d k 0 D];exact H _ (List.getElem_mem _)
   ·rw [g_E d k 0 D];omega
  have J:s.getD k 0<=4096:=by
   rcases Nat.lt_or_ge k s.length with D|D
   ·rw [a_r s k 0 D];exact I _ (List.getElem_mem _)
   ·rw [g_E s k 0 D];omega
  have:=Nat.mul_le_mul (show n<=4096 by omega) J;omega
theorem p_Q (a b:List Nat):itl (a++b)=itl a++itl b:=by simp [itl]
theorem f_W (g:Nat->Nat) (i:Nat):(List.range (i+1)).map g=(List.range i).map g++[g i]:=by rw [List.range_succ,List.map_append];rfl
theorem l_A (l:List Nat) (f:Nat->List Nat) (j:Nat) (h:j < l.length):(l.take (j+1)).flatMap f=(l.take j).flatMap f++f (l.getD j 0):=by
 rw [List.take_succ_eq_append_getElem h,List.flatMap_append,a_r l j 0 h];simp
theorem j_t (u v:Value) (d s:List Nat) (hd:goodN d) (hs:s.length=d.length) (hb:∀ x,x∈s->x<=4096) (w:World) (hu:Nums .i64 w u (itl d)) (hv:Nums .i64 w v (itl s)):
  Calls Tryz.prog 161 #[u,v] w fun e w'=>∃ v',e = .returned v'/\OwnK .i64 3 w' w.heap.size v' (itl (f_l d s))/\Below w.heap.size w w':=by
 obtain ⟨p,n,c,rfl,HA⟩:=hu.lst;obtain ⟨p2,n2,c2,rfl,HB⟩:=hv.lst;have ab:d.length=n:=by rw [<- a_v d];exact HA.out.1
 obtain rfl:n2=n:=by rw [<- ab,<- hs,<- a_v s];exact HB.out.1.symm
 have hn:n2<=4:=by rw [<- ab];exact hd.1
 have aU:(n2:Int)<=4:=by omega
 have R:Hid (goodN d/\s.length=d.length/\(∀ x,x∈s->x<=4096)/\d.length=n2):=⟨hd,hs,hb,ab⟩
 obtain ⟨L,eL⟩:∃ L,itl (f_l d s)=L:=⟨_,rfl⟩
 have HL:Hid (itl (f_l d s)=L):=eL;have H5:Hid (OwnK .i64 3 (w.alloc (.cells #[.int .i64 0] 3)) w.heap.size (.slice (some ⟨w.heap.size,0,none⟩) 1 1) (itl (h_k d s 0))):=b_5 w [0] 1 rfl (by decide);have H8:Hid (Below w.heap.size w (w.alloc (.cells #[.int .i64 0] 3))):=a_b w _;rw [eL];clear eL hd hs hb ab hu hv;go_enter Tryz.func161,Tryz.ntmps161;go_wp2_with fail
 go_loopg [5,15] n2 (fun gg r i wr=>∃ (k:Nat),k<=n2/\gg=n2 - k/\i = .int .i64 (k:Int)/\Hid (OwnK .i64 3 wr w.heap.size r (itl (h_k d s k)))/\Hid (Below w.heap.size w wr))
 case atStart=>exact ⟨0,by omega,by omega,by first|rfl|simp,H5,H8⟩
 case round=>
  obtain ⟨k,hk,hg,rfl,HO,hB⟩:=hrel;obtain ⟨O,aC⟩:∃ O:World,O=wr:=⟨_,rfl⟩
  subst aC;by_cases U:k < n2
  ·have aV:(k:Int) < (n2:Int):=by omega
   obtain ⟨q,o,rfl,ao⟩:=HA.out.2 k U;have H:=a_d ao hB.out;obtain ⟨q2,o2,rfl,ak⟩:=HB.out.2 k U;have I:=a_d ak hB.out;clear ao ak;obtain ⟨rp,N,rc,av,HR⟩:=HO.out.nums.lst;subst av;rw [a_O] at H I;obtain ⟨D,eD⟩:∃ D,d.getD k 0=D:=⟨_,rfl⟩
   obtain ⟨st,es⟩:∃ st,s.getD k 0=st:=⟨_,rfl⟩
   rw [eD] at H;rw [es] at I;obtain ⟨l,el⟩:∃ l,h_k d s k=l:=⟨_,rfl⟩
   have af:=R.out.1.at k (by rw [R.out.2.2.2];exact U);rw [eD] at af
   have aB:st<=4096:=by
    rw [<- es,a_r s k 0 (by rw [R.out.2.1,R.out.2.2.2];exact U)];exact R.out.2.2.1 _ (List.getElem_mem _)
   have hN:l.length=N:=by rw [<- el,<- a_v];exact HR.out.1
   have aF:N*D<=4096:=by
    rw [<- hN,<- el,e_S d s k (by rw [R.out.2.2.2];omega),<- eD,a_r d k 0 (by rw [R.out.2.2.2];exact U),<- b_D d k (by rw [R.out.2.2.2];exact U)];exact Nat.le_trans (d_U R.out.1.2.1 _) R.out.1.2.2
   have aq:(N:Int)*(D:Int)<=4096:=by rw [<- Int.natCast_mul];omega
   have ah:0<=(N:Int)*(D:Int):=by rw [<- Int.natCast_mul];omega
   have aN:N<=4096:=by
    have:=Nat.mul_le_mul (Nat.le_refl N) af.1;omega
   have aK:(N:Int)<=4096:=by omega
   have aP:1<=(D:Int)/\(D:Int)<=4096:=by omega
   have aJ:0<=(st:Int)/\(st:Int)<=4096:=by omega
   obtain ⟨f,ef⟩:∃ f:Nat->List Nat,(fun a=>(List.range D).map fun n=>a+n*st)=f:=⟨_,rfl⟩
   have V:Hid ((fun a=>(List.range D).map fun n=>a+n*st)=f/\h_k d s (k+1)=l.flatMap f/\h_k d s k=l/\l.length=N):=⟨ef,by rw [h_k,el,eD,es,ef],el,hN⟩
   have ay:Hid (∀ j,j < N->l.getD j 0<=67108864):=fun j hj=>by
    have aE:j < l.length:=by rw [V.out.2.2.2];exact hj
    have aj:l.getD j 0∈h_k d s k:=by
     rw [V.out.2.2.1,a_r l j 0 aE];exact List.getElem_mem _
    have:=l_z R.out.1.le R.out.2.2.1 k _ aj;omega
   obtain ⟨M,eM⟩:∃ M:Nat,N*D=M:=⟨_,rfl⟩
   have aH:(N:Int)*(D:Int)=(M:Int):=by rw [<- Int.natCast_mul,eM]
   have hM:M<=4096:=by omega
   have HM:Hid (N*D=M):=eM;clear eD es el hN ef aF aq ah eM af aB;go_wp2_with (at_make;refine d_4 i_e (by decide) _ rfl (.const (.int .i64 0)) (.tmp 23) rfl .i64 .i64 _ M rfl rfl rfl (by omega) ?_;intro w1 ai B1)
   rw [show ([]:List Int)=itl ((l.take 0).flatMap f) by simp [itl]] at ai;have aD:Hid (O.cell? ⟨q2,o2+k,none⟩=some (.int .i64 (st:Int))):=I;clear H I HO aH;go_wp2_with fail
   go_loopg [8,27] N (fun gg r i wz=>∃ (j:Nat),j<=N/\gg=N - j/\i = .int .i64 (j:Int)/\Hid (OwnK .i64 3 wz O.heap.size r (itl ((l.take j).flatMap f)))/\Hid (Below O.heap.size O wz))
   case atStart=>exact ⟨0,by omega,by omega,by first|rfl|simp,ai,B1⟩
   case round=>
    obtain ⟨j,hj,hg2,rfl,ae,ac⟩:=hrel;obtain ⟨R1,aG⟩:∃ R1:World,R1=wr:=⟨_,rfl⟩
    subst aG;by_cases ad:j < N
    ·have aM:(j:Int) < (N:Int):=by omega
     obtain ⟨q3,o3,rfl,ar⟩:=HR.out.2 j ad;have H:=a_d ar ac.out;rw [a_O,V.out.2.2.1] at H;have ha:=ay.out j ad;obtain ⟨J,ea⟩:∃ a,l.getD j 0=a:=⟨_,rfl⟩
     rw [ea] at H ha;have aw:Hid (l.getD j 0=J):=ea;have aO:(J:Int)<=67108864:=by omega
     obtain ⟨A,eA⟩:∃ A,(l.take j).flatMap f=A:=⟨_,rfl⟩
     have hA:A.length=j*D:=by
      rw [<- eA,<- V.out.1,g_F,List.length_take,V.out.2.2.2,Nat.min_eq_left hj]
     have an:A.length+D<=4096:=by
      have h1:=Nat.mul_le_mul (show j+1<=N by omega) (Nat.le_refl D);rw [HM.out,Nat.add_mul] at h1;omega
     have am:Hid ((l.take j).flatMap f=A/\A.length+D<=4096):=⟨eA,an⟩
     rw [eA,show A=A++(List.range 0).map (fun n=>J+n*st) by simp] at ae;clear ea ar eA hA an;go_wp2_with fail
     go_loopg [8,32] D (fun gg r i wy=>∃ (m:Nat),m<=D/\gg=D - m/\i = .int .i64 (m:Int)/\Hid (OwnK .i64 3 wy O.heap.size r (itl (A++(List.range m).map fun n=>J+n*st)))/\Hid (Below O.heap.size O wy))
     case atStart=>exact ⟨0,by omega,by omega,by first|rfl|simp,ae,ac⟩
     case round=>
      obtain ⟨m,hm,aQ,rfl,au,ag⟩:=hrel;obtain ⟨R2,az⟩:∃ R2:World,R2=wr:=⟨_,rfl⟩
      subst az;by_cases aL:m < D
      ·have aW:(m:Int) < (D:Int):=by omega
       have aS:=a_d aD.out ag.out;obtain ⟨X,eX⟩:∃ X,J+m*st=X:=⟨_,rfl⟩
       have ax:m*st<=16777216:=Nat.mul_le_mul (show m<=4096 by omega) (show st<=4096 by omega);obtain ⟨Y,eY⟩:∃ Y,m*st=Y:=⟨_,rfl⟩
       have aX:(m:Int)*(st:Int)=(Y:Int):=by rw [<- Int.natCast_mul,eY]
       rw [eY] at eX ax;have aR:(Y:Int)<=16777216:=by omega
       have aT:(J:Int)+(Y:Int)=(X:Int):=by omega
       have HX:Hid (J+m*st=X):=by show _=_;rw [eY];exact eX
       have H6:Hid (OwnK .i64 3 (R2.alloc (.cells #[.int .i64 (X:Int)] 3)) O.heap.size u8 (itl (A++(List.range m).map fun n=>J+n*st))):=au.out.up (a_b R2 _);have aI:Hid (Nums .i64 (R2.alloc (.cells #[.int .i64 (X:Int)] 3)) (.slice (some ⟨R2.heap.size,0,none⟩) 1 1) [(X:Int)]):=a_3 (k:=.i64) R2 [(X:Int)] 1 (0,0) rfl;have ap:Hid (Below O.heap.size O (R2.alloc (.cells #[.int .i64 (X:Int)] 3))):=g_a ag.out _
       have aA:Hid ((itl (A++(List.range m).map fun n=>J+n*st)).length+[(X:Int)].length<=1073741824):=by
        show _<=_;rw [a_v,List.length_append,List.length_map,List.length_range,List.length_singleton];have:=am.out.2;omega
       clear eX eY;go_wp2_with (at_builtin;refine a_F i_e (by decide) rfl (.tmp 35) (.tmp 44) rfl O.heap.size _ _ rfl H6.out _ [(X:Int)] rfl aI.out aA.out ap.out.size O ap.out ?_;intro v0 w0 H0 B0)
       have H7:Hid (OwnK .i64 3 w0 O.heap.size v0 (itl (A++(List.range (m+1)).map fun n=>J+n*st))):=by
        show OwnK _ _ _ _ _ _;rw [f_W,<- List.append_assoc,p_Q,HX.out];exact H0.out
       go_roundg (D - (m+1))
       case measure=>omega
       case rel=>exact ⟨m+1,by omega,rfl,by first|rfl|simp,H7,B0⟩
      ·obtain rfl:m=D:=by omega
       have H7:Hid (OwnK .i64 3 R2 O.heap.size u8 (itl ((l.take (j+1)).flatMap f))):=by
        show OwnK _ _ _ _ _ _;rw [l_A l f j (by rw [V.out.2.2.2];exact ad),am.out.1,aw.out,<- V.out.1];exact au.out
       go_wp2;go_roundg (N - (j+1))
       case measure=>omega
       case rel=>exact ⟨j+1,by omega,rfl,by first|rfl|simp,H7,ag⟩
    ·obtain rfl:j=N:=by omega
     have H7:Hid (OwnK .i64 3 R1 w.heap.size u8 (itl (h_k d s (k+1)))):=by
      show OwnK _ _ _ _ _ _;rw [V.out.2.1];have:=ae.out;rw [List.take_of_length_le (by rw [V.out.2.2.2];exact Nat.le_refl _)] at this;exact this.low hB.out.size
     have H9:Hid (Below w.heap.size w R1):=a_c hB.out ac.out;go_wp2;go_roundg (n2 - (k+1))
     case measure=>omega
     case rel=>exact ⟨k+1,by omega,rfl,by first|rfl|simp,H7,H9⟩
  ·obtain rfl:k=n2:=by omega
   have aa:=HO.out;have hw:=HL.out;unfold f_l at hw;rw [R.out.2.2.2] at hw;rw [hw] at aa;have V:Hid (OwnK .i64 3 O w.heap.size _ L/\Below w.heap.size w O):=⟨aa,hB.out⟩
   clear aa hw;go_wp2;go_ret;exact ⟨_,rfl,V.out⟩
theorem p_R (l:List Nat) (j x:Nat):itl (l.set j x)=(itl l).set j (x:Int):=by unfold itl;rw [List.map_set]
theorem e_s (u v:Value) (d big:List Nat) (hd:goodN d) (hb:goodN big) (hl:d.length<=big.length) (w:World) (hu:Nums .i64 w u (itl d)) (hv:Nums .i64 w v (itl big)):
  Calls Tryz.prog 133 #[u,v] w fun e w'=>∃ v',e = .returned v'/\OwnK .i64 3 w' w.heap.size v' (itl (b_U d big))/\Below w.heap.size w w':=by
 have cs:∀ W,Below w.heap.size w W->Calls Tryz.prog 160 #[u] W fun e w'=>∃ v',e = .returned v'/\OwnK .i64 3 w' W.heap.size v' (itl (a_w d))/\Below W.heap.size W w':=fun W hW=>by
  have:=f_d u (itl d) (j_j hd.le) W (hu.up hW);rw [show c_H (itl d)=itl (a_w d) by unfold c_H;rw [a_o,if_pos hd]] at this;exact this
 have an:Hid (Nums .i64 w u (itl d)/\Nums .i64 w v (itl big)):=⟨hu,hv⟩
 obtain ⟨p,n,c,rfl,HA⟩:=hu.lst;obtain ⟨p2,H,c2,rfl,HB⟩:=hv.lst;have R:d.length=n:=by rw [<- a_v d];exact HA.out.1
 have J:big.length=H:=by rw [<- a_v big];exact HB.out.1
 have hn:n<=H:=by omega
 have ay:H<=4:=by rw [<- J];exact hb.1
 have aC:(n:Int)<=(H:Int):=by omega
 have au:(H:Int)<=4:=by omega
 have M:Hid (goodN d/\goodN big/\d.length=n/\big.length=H):=⟨hd,hb,R,J⟩
 obtain ⟨L,eL⟩:∃ L,itl (b_U d big)=L:=⟨_,rfl⟩
 have HL:Hid (itl (f_l big (b_Y d H n))=L):=by show _=_;rw [<- eL,<- J,<- R];rfl
 obtain ⟨ah,az⟩:∃ ah,H - n=ah:=⟨_,rfl⟩
 have av:(H:Int) - (n:Int)=(ah:Int):=by omega
 have aB:ah<=4:=by omega
 rw [eL];clear eL hd hb hl R J hu hv;go_enter Tryz.func133,Tryz.ntmps133;go_wp2_with (at_make;refine a_z i_e (by decide) _ rfl (.tmp 10) (.tmp 10) rfl .i64 .i64 H H H rfl rfl rfl rfl (by omega) w.heap.size w (Nat.le_refl _) (Below.refl _ _) ?_;intro w1 HO B0 B1;clear B0)
 rw [show List.replicate H (0:Int)=itl (b_Y d H 0) by unfold itl b_Y;rw [List.map_replicate];rfl] at HO;refine (cs w1 B1).mono ?_;rintro e w2 ⟨vs,rfl,U,O⟩;obtain ⟨p3,I,c3,rfl,ab⟩:=U.nums.lst;obtain rfl:I=n:=by rw [<- ab.out.1,a_v,b_R,M.out.2.2.1]
 have HS:Hid (OwnK .i64 3 w2 w1.heap.size (.slice p3 I c3) (itl (a_w d))):=U;have ap:Hid (OwnK .i64 3 w2 w.heap.size (.slice (some ⟨w.heap.size,0,none⟩) H H) (itl (b_Y d H 0))):=HO.out.up O;have am:Hid (Below w.heap.size w w2):=a_c B1 O;have Hg:Hid (w.heap.size < w1.heap.size):=HO.out.size;clear U O HO B1 cs ab;go_wp2_with fail
 go_loopg [20] I (fun gg i wr=>∃ (k:Nat),k<=I/\gg=I - k/\i = .int .i64 (k:Int)/\Hid (OwnK .i64 3 wr w.heap.size (.slice (some ⟨w.heap.size,0,none⟩) H H) (itl (b_Y d H k)))/\Hid (Below w.heap.size w wr)/\Hid (Stay w.heap.size w2 wr))
 case atStart=>exact ⟨0,by omega,by omega,by first|rfl|simp,ap,am,Stay.refl _ _⟩
 case round=>
  obtain ⟨k,hk,hg,rfl,HR,hB,hS⟩:=hrel;by_cases V:k < I
  ·have aE:(k:Int) < (I:Int):=by omega
   have ak:=(HS.out.nums.stay hS.out (HS.out.off Hg.out)).lst;obtain ⟨p4,n4,c4,e4,af⟩:=ak;cases e4;obtain ⟨q,o,rfl,ae⟩:=af.out.2 k V;obtain ⟨q2,o2,rfl,ac⟩:=HA.out.2 k V;have ad:=a_d ac hB.out;rw [a_O] at ae ad;obtain ⟨st,es⟩:∃ st,(a_w d).getD k 0=st:=⟨_,rfl⟩
   obtain ⟨D,eD⟩:∃ D,d.getD k 0=D:=⟨_,rfl⟩
   rw [es] at ae;rw [eD] at ad;have HE:Hid ((a_w d).getD k 0=st/\d.getD k 0=D):=⟨es,eD⟩
   have aa:=e_q M.out.1 k;rw [es] at aa;have ar:(st:Int)<=4096:=by omega
   have hD:=M.out.1.at k (by rw [M.out.2.2.1];exact V);rw [eD] at hD;have aD:1<=(D:Int)/\(D:Int)<=4096:=by omega
   clear es eD ac af aa;by_cases h1:1 < D
   ·have ao:(1:Int) < (D:Int):=by omega
    obtain ⟨j,ej⟩:∃ j,ah+k=j:=⟨_,rfl⟩
    have aw:(ah:Int)+(k:Int)=(j:Int):=by omega
    have hj:j < H:=by omega
    have aA:(j:Int) < (H:Int):=by omega
    have Hj:Hid (H - d.length+k=j):=by show _=_;rw [M.out.2.2.1];omega
    obtain ⟨aq,ax⟩:=HR.out.cell (by rw [a_v,b_9]) j hj
    have H2:Hid (OwnK .i64 3 (wr.setCell ⟨w.heap.size,j,none⟩ (.int .i64 (st:Int))) w.heap.size (.slice (some ⟨w.heap.size,0,none⟩) H H) (itl (b_Y d H (k+1)))):=by
     have:=HR.out.store (by rw [a_v,b_9]) j (st:Int);rw [<- p_R,<- HE.out.1,<- Hj.out] at this;show OwnK _ _ _ _ _ _;rw [b_Y,if_pos (by rw [HE.out.2];exact h1),<- HE.out.1,<- Hj.out];exact this
    have aj:Hid (Below w.heap.size w (wr.setCell ⟨w.heap.size,j,none⟩ (.int .i64 (st:Int)))):=hB.out.setCell (p:=⟨w.heap.size,j,none⟩) (Nat.le_refl _) _;have ai:Hid (Stay w.heap.size w2 (wr.setCell ⟨w.heap.size,j,none⟩ (.int .i64 (st:Int)))):=hS.out.set _ _;clear ej;go_wp2;go_roundg (I - (k+1))
    case measure=>omega
    case rel=>exact ⟨k+1,by omega,rfl,by first|rfl|simp,H2,aj,ai⟩
   ·have ao:(D:Int)<=1:=by omega
    have H2:Hid (OwnK .i64 3 wr w.heap.size (.slice (some ⟨w.heap.size,0,none⟩) H H) (itl (b_Y d H (k+1)))):=by
     show OwnK _ _ _ _ _ _;rw [b_Y,if_neg (by rw [HE.out.2];exact h1)];exact HR.out
    go_wp2;go_roundg (I - (k+1))
    case measure=>omega
    case rel=>exact ⟨k+1,by omega,rfl,by first|rfl|simp,H2,hB,hS⟩
  ·obtain rfl:k=I:=by omega
   have cw:=j_t _ _ big (b_Y d H k) M.out.2.1 (by rw [b_9,M.out.2.2.2]) (g_H M.out.1 H k) wr (an.out.2.up hB.out) HR.out.nums;rw [HL.out] at cw;go_wp2_with fail
   refine cw.mono ?_;rintro e w5 ⟨v5,rfl,h5,ag⟩;have HF:Hid (OwnK .i64 3 w5 w.heap.size v5 L/\Below w.heap.size w w5):=⟨h5.low hB.out.size,a_c hB.out ag⟩
   clear h5 ag cw;go_wp2;go_ret;exact ⟨_,rfl,HF.out⟩
theorem a_a {W:World} {b o:Nat} {v:Value} (h:W.cell? ⟨b,o,none⟩=some v):b < W.heap.size:=c_u (a:=⟨b,o,none⟩) h
/-- A struct of two values in a block, that may be stored into. -/
def Cel (W:World) (b:Nat) (s t:Value):Prop:=W.cell? ⟨b,0,none⟩=some s/\W.cell? ⟨b,1,none⟩=some t/\W.frozen? ⟨b,0,none⟩=false/\W.frozen? ⟨b,1,none⟩=false
theorem Cel.up {W W':World} {b:Nat} {s t:Value} (h:Cel W b s t) (D:Below W.heap.size W W'):Cel W' b s t:=by
 have hb:=a_a h.1;refine ⟨a_d h.1 D,a_d h.2.1 D,?_,?_⟩
 ·rw [D.frozen (p:=⟨b,0,none⟩) hb];exact h.2.2.1
 ·rw [D.frozen (p:=⟨b,1,none⟩) hb];exact h.2.2.2
theorem Cel.stay {g:Nat} {W W':World} {b:Nat} {s t:Value} (h:Cel W b s t) (H:Stay g W W') (D:b≠g):Cel W' b s t:=by
 have hb:=a_a h.1;refine ⟨H.cell h.1 D,H.cell h.2.1 D,?_,?_⟩
 ·rw [H.frozen hb D];exact h.2.2.1
 ·rw [H.frozen hb D];exact h.2.2.2
theorem a_y {V D:World} {b:Nat} {s t:Value} (h:V=D) (H:V.cell? ⟨b,0,none⟩=some s/\V.cell? ⟨b,1,none⟩=some t/\V.frozen? ⟨b,0,none⟩=false/\V.frozen? ⟨b,1,none⟩=false):Hid (Cel D b s t):=h ▸ H
theorem b_C {w V D:World} (h:V=D) (H:Below w.heap.size w V):Hid (Below w.heap.size w D):=h ▸ H
theorem j_u {W:World} {p:Addr} {x v:Value} (h:W.cell? p=some v):(W.setCell p x).cell? p=some x:=World.cell?_setCell_same _ _ _ h
theorem l_B {W:World} {b i j:Nat} {x:Value} (D:j≠i):(W.setCell ⟨b,i,none⟩ x).cell? ⟨b,j,none⟩=W.cell? ⟨b,j,none⟩:=World.cell?_setCell_other _ _ _ _ (by simp;try omega)
/-- The struct, stored. -/
abbrev set2 (W:World) (b:Nat) (s t:Value):World:=(W.setCell ⟨b,0,none⟩ s).setCell ⟨b,1,none⟩ t
theorem Cel.set {W:World} {b:Nat} {s t:Value} (h:Cel W b s t) (H D:Value):Cel (set2 W b H D) b H D:=by
 refine ⟨?_,?_,?_,?_⟩
 ·show ((W.setCell ⟨b,0,none⟩ H).setCell ⟨b,1,none⟩ D).cell? ⟨b,0,none⟩=_;rw [l_B (by omega)];exact j_u h.1
 ·exact j_u (by rw [l_B (by omega)];exact h.2.1)
 ·simp [h.2.2.1]
 ·simp [h.2.2.2]
theorem Stay.set2 {g:Nat} (W:World) (s t:Value):Stay g W (set2 W g s t):=((Stay.refl g W).set 0 s).set 1 t
theorem OwnK.off_new {k:IntKind} {e:TypeId} {W:World} {B g:Nat} {v:Value} {l:List Int} (h:OwnK k e W B v l) (R:W.heap.size<=g):Off g v:=by
 intro O n c D;rcases h.2 with ⟨H,_⟩|⟨q,L,J,H,M,I,_⟩
 ·rw [H] at D;cases D
 ·rw [H] at D;cases D
  have:q < W.heap.size:=by
   rcases Nat.lt_or_ge q W.heap.size with h|h
   ·exact h
   ·rw [Array.getElem?_eq_none h] at I;cases I
  show q≠g;omega
/-- What a call answers: a tensor in memory of its own. -/
def TRes (W:World) (B:Nat) (v:Value) (D X:List Int):Prop:=∃ s t,v = .agg #[s,t]/\OwnK .i64 3 W B s D/\OwnK .i64 23 W B t X
theorem TRes.none (W:World) (B:Nat):TRes W B (.agg #[.slice none 0 0,.slice none 0 0]) [] []:=⟨_,_,rfl,OwnK.nil _ _ _ _,OwnK.nil _ _ _ _⟩
theorem TRes.up {W W':World} {B:Nat} {v:Value} {D X:List Int} (h:TRes W B v D X) (H:Below W.heap.size W W'):TRes W' B v D X:=by
 obtain ⟨s,t,e,I,J⟩:=h;exact ⟨s,t,e,I.up H,J.up H⟩
theorem TRes.low {W:World} {B I:Nat} {v:Value} {D X:List Int} (h:TRes W B v D X) (H:I<=B):TRes W I v D X:=by
 obtain ⟨s,t,e,J,L⟩:=h;exact ⟨s,t,e,J.low H,L.low H⟩
theorem TRes.set {W:World} {B b:Nat} {s t:Value} {D X:List Int} (H:OwnK .i64 3 W B s D) (I:OwnK .i64 23 W B t X) (hb:b < B):TRes (set2 W b s t) B (.agg #[s,t]) D X:=
 ⟨s,t,rfl,H.stay (Stay.set2 W s t) (H.off hb),I.stay (Stay.set2 W s t) (I.off hb)⟩
theorem a_j {w W:World} (h:Below w.heap.size w W) (b:Nat) (hb:w.heap.size<=b) (x y:Value):Below w.heap.size w (set2 W b x y):=a_7 h b hb x y
theorem d_5 {w H W:World} {b:Nat} {s t U O:Value} {D X:List Int} (R:Hid (Cel H b U O)) (J:Hid (Below w.heap.size w H)) (L:Below H.heap.size H W) (hs:OwnK .i64 3 W H.heap.size s D) (V:OwnK .i64 23 W H.heap.size t X) (hb:w.heap.size<=b):Hid (TRes (set2 W b s t) w.heap.size (.agg #[s,t]) D X/\Below w.heap.size w (set2 W b s t))/\W.cell? ⟨b,0,none⟩=some U/\W.cell? ⟨b,1,none⟩=some O/\W.frozen? ⟨b,0,none⟩=false/\W.frozen? ⟨b,1,none⟩=false/\(set2 W b s t).cell? ⟨b,0,none⟩=some s/\(set2 W b s t).cell? ⟨b,1,none⟩=some t:=by
 have I:=R.out.up L;have M:=I.set s t;exact ⟨⟨(TRes.set hs V (a_a R.out.1)).low J.out.size,a_j (a_c J.out L) _ hb _ _⟩,I.1,I.2.1,I.2.2.1,I.2.2.2,M.1,M.2.1⟩
/-- Both spread and reckoned, number by number. -/
def b_u (d x d' y:List Int):Int:=if isP d x/\isP d' y then b_w d d' else 1
def b_x (d x d' y:List Int):List Int:=if isP d x/\isP d' y then b_T d d' else []
def b_G (op:Int->Int->Int) (d x d' y:List Int):List Int:=
 if (isP d x/\isP d' y)/\b_w d d'=0 then (List.range (a_e (ntl (b_T d d')))).map fun i=>op (x.getD (b_S (ntl d) (ntl (b_T d d')) i) 0) (y.getD (b_S (ntl d') (ntl (b_T d d')) i) 0) else []
theorem f_s {op:Int->Int->Int} {d x d' y:List Int} (h:¬ (isP d x/\isP d' y)):b_u d x d' y=1/\b_x d x d' y = []/\b_G op d x d' y = []:=⟨if_neg h,if_neg h,if_neg fun D=>h D.1⟩
theorem l_C {a b:List Int} (h:b_w a b≠0):b_T a b = []:=by
 unfold b_T;rw [if_neg];rintro ⟨D,H,I,J⟩;apply h;unfold b_w;rw [if_pos ⟨D,H⟩,if_pos I,if_pos J]
theorem j_v {op:Int->Int->Int} {d x d' y:List Int} (h:isP d x/\isP d' y) (D:b_w d d'≠0):b_u d x d' y=b_w d d'/\b_x d x d' y = []/\b_G op d x d' y = []:=
 ⟨if_pos h,by unfold b_x;rw [if_pos h];exact l_C D,if_neg fun H=>D H.2⟩
/-- Both fit: what stands where. -/
structure Joint (d x d' y:List Int) (a b J:List Nat):Prop where
 da:d=itl a
 db:d'=itl b
 ga:goodN a
 gb:goodN b
 gJ:goodN J
 jn:b_T d d'=itl J
 je:b_w d d'=0
 lx:x.length=a_e a
 ly:y.length=a_e b
 fa:b_W a J
 ja:joinN a J=J
 fb:b_W b J
 jb:joinN b J=J
theorem n_L {d x d' y:List Int} (h:isP d x/\isP d' y) (R:b_w d d'=0):∃ a b J,Joint d x d' y a b J:=by
 obtain ⟨V,h2,I,L⟩:=f_9 R;obtain ⟨a,D,rfl⟩:=b_k V;obtain ⟨b,H,rfl⟩:=b_k h2;rw [a_o,a_o] at I L;have U:=(b_o D H I L).1;have M:=h.1.2;have O:=h.2.2;rw [a_o] at M O;refine ⟨a,b,joinN a b,rfl,rfl,D,H,L,U,R,M,O,?_,?_,?_,?_⟩
 ·rw [e_p];exact e_7 D.2.1 H.2.1 I
 ·rw [b_Z,e_8]
 ·rw [e_p,b_Z a b];exact e_7 H.2.1 D.2.1 ((e_p _ _).1 I)
 ·rw [b_Z b,b_Z a b,e_8]
theorem Joint.E {op:Int->Int->Int} {d x d' y:List Int} {a b J:List Nat} (h:Joint d x d' y a b J):b_u d x d' y=0/\b_x d x d' y=itl J/\b_G op d x d' y=(List.range (a_e J)).map fun i=>op (x.getD (b_S a J i) 0) (y.getD (b_S b J i) 0):=by
 have D:isP d x/\isP d' y:=by
  rw [h.da,h.db];unfold isP;rw [a_o,a_o];exact ⟨⟨h.ga,h.lx⟩,h.gb,h.ly⟩
 refine ⟨?_,?_,?_⟩
 ·unfold b_u;rw [if_pos D];exact h.je
 ·unfold b_x;rw [if_pos D];exact h.jn
 ·unfold b_G;rw [if_pos ⟨D,h.je⟩,h.jn,a_o];rw [h.da,h.db,a_o,a_o]
theorem RowN.riI {w:World} {p:Option Addr} {n c:Nat} {z:Nat->Int} (h:RowN .i64 w p n c z):RI (k_8 n z):=fun y D=>bounds_i64 (h.wf y D)
/-- A cell for a tensor, newly made. -/
def NewC (B:Nat) (v:Value) (W:World):Prop:=∃ b,v = .pointer (some ⟨b,0,none⟩)/\W.heap[b]?=some (.cells #[.slice none 0 0,.slice none 0 0] 64 (0,0))/\B<=b
theorem a_i {W:World} {b:Nat} {o:Obj} (h:W.heap[b]?=some o):b < W.heap.size:=by
 rcases Nat.lt_or_ge b W.heap.size with D|D
 ·exact D
 ·rw [Array.getElem?_eq_none D] at h;cases h
theorem NewC.up {B:Nat} {v:Value} {W W':World} (h:NewC B v W) (H:Below W.heap.size W W'):NewC B v W':=by
 obtain ⟨b,e,D,I⟩:=h;exact ⟨b,e,by rw [H.block b (a_i D)];exact D,I⟩
theorem c_o {W:World} {b:Nat} {s t:Value} {e:TypeId} (h:W.heap[b]?=some (.cells #[s,t] e (0,0))):Cel W b s t:=by
 refine ⟨?_,?_,?_,?_⟩
 ·unfold World.cell?;simp [h]
 ·unfold World.cell?;simp [h]
 ·unfold World.frozen?;simp [h]
 ·unfold World.frozen?;simp [h]
theorem OwnK.off_type {k:IntKind} {e L:TypeId} {W:World} {B b:Nat} {v:Value} {l:List Int} {O:Array Value} {V:Nat×Nat} (h:OwnK k e W B v l) (hb:W.heap[b]?=some (.cells O L V)) (I:e≠L):Off b v:=by
 intro ad n c D;rcases h.2 with ⟨H,_⟩|⟨q,R,M,H,h2,U,_⟩
 ·rw [H] at D;cases D
 ·rw [H] at D;cases D;intro J;have J:q=b:=J;subst J;rw [U] at hb
  injection hb with hb
  injection hb with _ h5 _
  exact I h5
/-- A tensor's copy. -/
def OwnT (B:Nat) (D X:List Int) (v:Value) (W:World):Prop:=∃ p n c p2 n2 c2,v = .agg #[.slice p n c,.slice p2 n2 c2]/\OwnK .i64 3 W B (.slice p n c) D/\OwnK .i64 23 W B (.slice p2 n2 c2) X
theorem OwnT.up {B:Nat} {D X:List Int} {v:Value} {W W':World} (h:OwnT B D X v W) (H:Below W.heap.size W W'):OwnT B D X v W':=by
 obtain ⟨p,n,c,L,O,M,e,I,J⟩:=h;exact ⟨p,n,c,L,O,M,e,I.up H,J.up H⟩
/-- A literal's row. -/
def LitN (l:List Int) (v:Value) (W:World):Prop:=∃ g,v = .slice (some ⟨g,0,none⟩) l.length l.length/\Nums .i64 W v l
theorem LitN.up {l:List Int} {v:Value} {W W':World} (h:LitN l v W) (H:Below W.heap.size W W'):LitN l v W':=by
 obtain ⟨g,e,D⟩:=h;exact ⟨g,e,D.up H⟩
/-- A tensor's two literals. -/
def TupP (B:Nat) (D X:List Int) (E:Int) (v:Value) (W:World):Prop:=∃ u,v = .tuple #[u,.int .i64 E]/\OwnT B D X u W
theorem TupP.up {B:Nat} {D X:List Int} {E:Int} {v:Value} {W W':World} (h:TupP B D X E v W) (H:Below W.heap.size W W'):TupP B D X E v W':=by
 obtain ⟨u,e,I⟩:=h;exact ⟨u,e,I.up H⟩
theorem TRes.own {W:World} {B:Nat} {v:Value} {D X:List Int} (h:TRes W B v D X):OwnT B D X v W:=by
 obtain ⟨s,t,rfl,H,I⟩:=h;obtain ⟨p,n,c,rfl,_⟩:=H.nums.lst;obtain ⟨J,M,L,rfl,_⟩:=I.nums.lst;exact ⟨p,n,c,J,M,L,rfl,H,I⟩
/-- A slice has room for what it holds. -/
theorem OwnK.cap {k:IntKind} {e:TypeId} {W:World} {B n c:Nat} {p:Option Addr} {l:List Int} (h:OwnK k e W B (.slice p n c) l):n<=c:=by
 rcases h.2 with ⟨D,_⟩|⟨q,J,H,D,L,M,I,_⟩
 ·cases D;exact Nat.le_refl _
 ·cases D;exact I
theorem OwnK.obj {k:IntKind} {e:TypeId} {W:World} {B g n c:Nat} {l:List Int} (h:OwnK k e W B (.slice (some ⟨g,0,none⟩) n c) l):∃ I M,W.heap[g]?=some (.cells I e M):=by
 rcases h.2 with ⟨D,_⟩|⟨q,J,H,D,O,L,_⟩
 ·cases D
 ·cases D;exact ⟨_,_,L⟩
theorem s_B {H D:Nat}:goodN (ntl [(H:Int),(D:Int)])↔1<=H/\1<=D/\H*D<=4096:=by
 have J:ntl [(H:Int),(D:Int)] = [H,D]:=a_o [H,D];rw [J];constructor
 ·intro h;exact ⟨h.2.1 _ (by simp),h.2.1 _ (by simp),by have:=h.2.2;simpa [a_e] using this⟩
 ·rintro ⟨a,b,c⟩;exact ⟨by simp,fun y I=>by simp at I;omega,by simpa [a_e] using c⟩
theorem j_w {a b:Nat} (H:a<=4096) (hb:b<=4096):RI [(a:Int),(b:Int)]:=fun q D=>by
 simp at D;omega
theorem c_M {a b:Nat} (h:a*b<=4096) (D:1<=a) (hb:1<=b):a<=4096/\b<=4096:=⟨by have:=Nat.mul_le_mul_left a hb;omega,by have:=Nat.mul_le_mul_right b D;omega⟩
theorem a_X {d x:List Int} (h:isP d x) (L:d.length=2):∃ H D:Nat,d = [(H:Int),(D:Int)]/\x.length=H*D/\1<=H/\1<=D/\H*D<=4096:=by
 obtain ⟨a,I,rfl⟩:=b_k h.1;have J:=h.2;rw [a_o] at J;rw [a_v] at L
 match a,L with
 | [H,D],_=>
  have e:a_e [H,D]=H*D:=by simp [a_e]
  rw [e] at J;refine ⟨H,D,rfl,J,I.2.1 _ (by simp),I.2.1 _ (by simp),?_⟩;have:=I.2.2;rw [e] at this;exact this
theorem c_d {d x:List Int} (h:isP d x) (M:d.length=3):∃ H D I:Nat,d = [(H:Int),(D:Int),(I:Int)]/\x.length=H*D*I/\1<=H/\1<=D/\1<=I/\H*D*I<=4096:=by
 obtain ⟨a,J,rfl⟩:=b_k h.1;have L:=h.2;rw [a_o] at L;rw [a_v] at M
 match a,M with
 | [H,D,I],_=>
  have e:a_e [H,D,I]=H*D*I:=by simp [a_e,Nat.mul_assoc]
  rw [e] at L;refine ⟨H,D,I,rfl,L,J.2.1 _ (by simp),J.2.1 _ (by simp),J.2.1 _ (by simp),?_⟩;have:=J.2.2;rw [e] at this;exact this
theorem q_8 {H D I:Nat}:goodN (ntl [(H:Int),(D:Int),(I:Int)])↔1<=H/\1<=D/\1<=I/\H*D*I<=4096:=by
 have L:ntl [(H:Int),(D:Int),(I:Int)] = [H,D,I]:=a_o [H,D,I];rw [L];constructor
 ·intro h;exact ⟨h.2.1 _ (by simp),h.2.1 _ (by simp),h.2.1 _ (by simp),by have:=h.2.2;simpa [a_e,Nat.mul_assoc] using this⟩
 ·rintro ⟨a,b,c,e⟩;exact ⟨by simp,fun y J=>by simp at J;omega,by simpa [a_e,Nat.mul_assoc] using e⟩
theorem j_x {a b c:Nat} (H:a<=4096) (hb:b<=4096) (I:c<=4096):RI [(a:Int),(b:Int),(c:Int)]:=fun q D=>by
 simp at D;omega
theorem c_k (a b:Nat):a_e (ntl [(a:Int),(b:Int)])=a*b:=by rw [show ntl [(a:Int),(b:Int)] = [a,b] from a_o [a,b]];simp [a_e]
theorem e_t (a b c:Nat):a_e (ntl [(a:Int),(b:Int),(c:Int)])=a*b*c:=by rw [show ntl [(a:Int),(b:Int),(c:Int)] = [a,b,c] from a_o [a,b,c]];simp [a_e,Nat.mul_assoc]
end Go.Proofs.YtjlofobnmjompaaGreatDoor.Wd
namespace Go.Proofs.YtjlofobnmjompaaGreatDoor.Wd
open Go.RowKit Fx
/-- Blocks of other types than these stand. -/
def Only (S:List TypeId) (W W':World):Prop:=W.heap.size<=W'.heap.size/\∀ k,k < W.heap.size->(∀ cs e fz,W.heap[k]?=some (.cells cs e fz)->e∉S)->W'.heap[k]?=W.heap[k]?
theorem Only.refl (S:List TypeId) (W:World):Only S W W:=⟨Nat.le_refl _,fun _ _ _=>rfl⟩
theorem Only.trans {S:List TypeId} {a b c:World} (h:Only S a b) (I:Only S b c):Only S a c:=⟨Nat.le_trans h.1 I.1,fun k H D=>by
 have e:=h.2 k H D;rw [I.2 k (Nat.lt_of_lt_of_le H h.1) (by rw [e];exact D),e]⟩
theorem Only.of {S:List TypeId} {a b:World} (h:Below a.heap.size a b):Only S a b:=⟨h.size,fun k D _=>h.block k D⟩
theorem Only.more {S D:List TypeId} {a b:World} (h:Only S a b) (J:∀ e,e∈S->e∈D):Only D a b:=⟨h.1,fun k I H=>h.2 k I fun L e M he O=>H L e M he (J e O)⟩
theorem Only.keep {S:List TypeId} {a b:World} (h:Only S a b) {k:Nat} {I:Array Value} {e:TypeId} {J:Nat×Nat} (D:a.heap[k]?=some (.cells I e J)) (he:e∉S):b.heap[k]?=some (.cells I e J):=by
 rw [h.2 k (a_i D) (fun M O L H=>by rw [D] at H;cases H;exact he)];exact D
theorem Only.grown {S:List TypeId} {a b:World} {D:Option Nat} (h:a.grownBy b D) (R:∀ k,D=some k->∃ H e I,a.heap[k]?=some (.cells H e I)/\e∈S):Only S a b:=⟨h.size,fun k L J=>h.block k L fun e=>by
 obtain ⟨H,O,I,M,U⟩:=R k e.symm;exact J H O I M U⟩
theorem a_T (W:World) (b o:Nat) (x:Value) (k:Nat) (h:k≠b):(W.setCell ⟨b,o,none⟩ x).heap[k]?=W.heap[k]?:=by
 unfold World.setCell;simp [Array.getElem?_modify,Ne.symm h]
theorem a_m {W:World} {b o:Nat} {x:Value} {D:Array Value} {e:TypeId} {H:Nat×Nat} (h:W.heap[b]?=some (.cells D e H)):(W.setCell ⟨b,o,none⟩ x).heap[b]?=some (.cells (D.setIfInBounds o x) e H):=by
 unfold World.setCell;simp [Array.getElem?_modify,h]
theorem Only.set {S:List TypeId} {W:World} {b o:Nat} {x:Value} {H:Array Value} {e:TypeId} {I:Nat×Nat} (h:W.heap[b]?=some (.cells H e I)) (he:e∈S):Only S W (W.setCell ⟨b,o,none⟩ x):=⟨by simp,fun k L J=>a_T W b o x k fun D=>by
 subst D;exact J H e I h he⟩
theorem OwnK.only {k:IntKind} {e:TypeId} {S:List TypeId} {W W':World} {B:Nat} {v:Value} {l:List Int} (h:OwnK k e W B v l) (L:Only S W W') (he:e∉S):OwnK k e W' B v l:=by
 refine ⟨h.1,?_⟩;rcases h.2 with M|⟨g,H,D,I,hb,J,rest⟩
 ·exact .inl M
 ·exact .inr ⟨g,H,D,I,hb,L.keep J he,rest⟩
/-- A node, as the document has it. -/
structure Nd where
 op:Int
 a:Int
 b:Int
 k:Int
 D:List Int
 X:List Int
/-- A node's six cells. -/
def NdC (W:World) (B:Nat) (nd:Nd) (u:List Value):Prop:=∃ s t,u = [.int .i64 nd.op,.int .i64 nd.a,.int .i64 nd.b,.int .i64 nd.k,s,t]/\OwnK .i64 3 W B s nd.D/\OwnK .i64 23 W B t nd.X
def NdsC (W:World) (B:Nat) (ns:List Nd) (xs:List Value):Prop:=xs.length=ns.length*6/\∀ i nd,ns[i]?=some nd->NdC W B nd ((xs.drop (i*6)).take 6)
theorem NdC.only {S:List TypeId} {W W':World} {B:Nat} {nd:Nd} {u:List Value} (h:NdC W B nd u) (D:Only S W W') (H:3∉S) (L:23∉S):NdC W' B nd u:=by
 obtain ⟨s,t,e,I,J⟩:=h;exact ⟨s,t,e,I.only D H,J.only D L⟩
theorem NdsC.only {S:List TypeId} {W W':World} {B:Nat} {ns:List Nd} {xs:List Value} (h:NdsC W B ns xs) (H:Only S W W') (D:3∉S) (I:23∉S):NdsC W' B ns xs:=⟨h.1,fun i nd J=>(h.2 i nd J).only H D I⟩
theorem NdC.len {W:World} {B:Nat} {nd:Nd} {u:List Value} (h:NdC W B nd u):u.length=6:=by
 obtain ⟨s,t,rfl,_⟩:=h;rfl
theorem NdC.one {W:World} {B:Nat} {nd:Nd} {u:List Value} (h:NdC W B nd u):∀ x∈u,x.oneCell'=true:=by
 obtain ⟨s,t,rfl,I,H⟩:=h;obtain ⟨_,_,_,rfl,_⟩:=I.nums.lst;obtain ⟨_,_,_,rfl,_⟩:=H.nums.lst;intro x D;simp only [List.mem_cons,List.not_mem_nil,or_false] at D;rcases D with rfl|rfl|rfl|rfl|rfl|rfl <;> rfl
theorem NdsC.push {W:World} {B:Nat} {ns:List Nd} {xs:List Value} {nd:Nd} {u:List Value} (h:NdsC W B ns xs) (J:NdC W B nd u):NdsC W B (ns++[nd]) (xs++u):=by
 have L:=J.len;refine ⟨by rw [List.length_append,List.length_append,h.1,L];simp;omega,fun i x D=>?_⟩;by_cases H:i < ns.length
 ·rw [List.getElem?_append_left H] at D;have:=h.2 i x D;rw [List.drop_append_of_le_length (by rw [h.1];omega),List.take_append_of_le_length (by rw [List.length_drop,h.1];omega)];exact this
 ·rw [List.getElem?_append_right (by omega)] at D
  obtain I:i=ns.length:=by
   rcases Nat.eq_or_lt_of_le (Nat.le_of_not_lt H) with e|e
   ·exact e.symm
   ·rw [List.getElem?_eq_none (by simp;omega)] at D;cases D
  subst I;rw [Nat.sub_self] at D;cases D;rw [<- h.1,List.drop_left,List.take_of_length_le (by omega)];exact J
theorem NdsC.nil (W:World) (B:Nat):NdsC W B [] []:=⟨rfl,fun i nd h=>by simp at h⟩
/-- A tape: a block with one cell, the row of its nodes. -/
def Tap (TT NT:TypeId) (W:World) (B b:Nat) (ns:List Nd):Prop:=B<=b/\∃ v xs,W.heap[b]?=some (.cells #[v] TT (0,0))/\W.ownsRow B NT 6 v ns.length xs/\NdsC W B ns xs
theorem a_A {S:List TypeId} {W W':World} {B n s:Nat} {e:TypeId} {v:Value} {xs:List Value} (h:W.ownsRow B e s v n xs) (L:Only S W W') (he:e∉S):W'.ownsRow B e s v n xs:=by
 refine ⟨h.1,?_⟩;rcases h.2 with M|⟨g,H,D,I,hb,J,rest⟩
 ·exact .inl M
 ·exact .inr ⟨g,H,D,I,hb,L.keep J he,rest⟩
theorem Tap.only {TT NT:TypeId} {S:List TypeId} {W W':World} {B b:Nat} {ns:List Nd} (h:Tap TT NT W B b ns) (D:Only S W W') (I:TT∉S) (J:NT∉S) (O:3∉S) (L:23∉S):Tap TT NT W' B b ns:=by
 obtain ⟨hb,v,xs,M,H,R⟩:=h;exact ⟨hb,v,xs,D.keep M I,a_A H D J,R.only D O L⟩
theorem Tap.up {TT NT:TypeId} {W W':World} {B b:Nat} {ns:List Nd} (h:Tap TT NT W B b ns) (D:Below W.heap.size W W'):Tap TT NT W' B b ns:=h.only (S:=[]) (Only.of D) (by simp) (by simp) (by simp) (by simp)
theorem Tap.new {TT NT:TypeId} {W:World} {B:Nat} (D:B<=W.heap.size):Tap TT NT (W.alloc (.cells #[.slice none 0 0] TT)) B W.heap.size []:=
 ⟨D,_,[],heap_alloc_new W _,World.ownsRow_nil _ _ _ _,NdsC.nil _ _⟩
theorem d_6 {TT NT:TypeId} (D:NT≠TT) {W:World} {B b n s:Nat} {v J:Value} {xs:List Value} (hb:W.heap[b]?=some (.cells #[J] TT (0,0))) (h:W.ownsRow B NT s v n xs):v.ownBlock≠some b:=by
 rcases h.2 with ⟨rfl,_⟩|⟨g,L,I,rfl,_,H,_⟩
 ·simp [Value.ownBlock]
 ·intro e;simp [Value.ownBlock] at e;subst e;rw [hb] at H;cases H;exact D rfl
/-- A node more: the row was made longer, then the tape's cell was written. -/
theorem Tap.push {TT NT:TypeId} (I:NT≠TT) (U:3∉[TT,NT]) (n2:23∉[TT,NT]) {W W':World} {B b:Nat} {ns:List Nd} {v H:Value} {xs u:List Value} {nd:Nd} (hB:B<=b)
  (M:W.heap[b]?=some (.cells #[v] TT (0,0))) (ho:W.ownsRow B NT 6 v ns.length xs) (hn:NdsC W B ns xs) (hu:NdC W B nd u) (hg:W.grownBy W' v.ownBlock) (L:W'.ownsRow B NT 6 H (ns.length+1) (xs++u)):
  Tap TT NT (W'.setCell ⟨b,0,none⟩ H) B b (ns++[nd])/\Only [TT,NT] W (W'.setCell ⟨b,0,none⟩ H):=by
 have J:∀ k,v.ownBlock=some k->∃ cs e fz,W.heap[k]?=some (.cells cs e fz)/\e∈[TT,NT]:=fun k O=>by
  rcases ho.2 with ⟨rfl,_⟩|⟨g,aa,ab,rfl,_,hg2,_⟩
  ·simp [Value.ownBlock] at O
  ·simp [Value.ownBlock] at O;subst O;exact ⟨_,_,_,hg2,by simp⟩
 have R:Only [TT,NT] W W':=Only.grown hg J
 have D:W'.heap[b]?=some (.cells #[v] TT (0,0)):=by
  rw [hg.block b (a_i M) (Ne.symm (d_6 I M ho))];exact M
 have V:Only [TT,NT] W' (W'.setCell ⟨b,0,none⟩ H):=Only.set D (by simp);have o3:Only [TT] W' (W'.setCell ⟨b,0,none⟩ H):=Only.set D (by simp);refine ⟨⟨hB,H,xs++u,?_,?_,?_⟩,R.trans V⟩
 ·rw [a_m D];rfl
 ·rw [List.length_append];exact a_A L o3 (by simp;exact I)
 ·exact ((hn.push hu).only R U n2).only V U n2
/-- What a walk reads of a tape. -/
theorem Tap.head {TT NT:TypeId} {W:World} {B b:Nat} {ns:List Nd} (h:Tap TT NT W B b ns):∃ p c xs,W.heap[b]?=some (.cells #[.slice p ns.length c] TT (0,0))/\W.ownsRow B NT 6 (.slice p ns.length c) ns.length xs/\NdsC W B ns xs/\ns.length<=c:=by
 obtain ⟨hb,v,xs,J,D,L⟩:=h;rcases D.2 with ⟨rfl,I⟩|⟨g,U,M,rfl,O,V,R,rest⟩
 ·rw [I] at D;have H:ns = []:=List.eq_nil_of_length_eq_zero I;subst H;exact ⟨none,0,xs,J,D,L,Nat.le_refl _⟩
 ·exact ⟨_,_,xs,J,D,L,R⟩
theorem b_H {W:World} {b:Nat} {v:Value} {e:TypeId} (h:W.heap[b]?=some (.cells #[v] e (0,0))):W.cell? ⟨b,0,none⟩=some v/\W.frozen? ⟨b,0,none⟩=false:=by
 unfold World.cell? World.frozen?;simp [h]
/-- A node's cells, one by one. -/
theorem d_u {NT:TypeId} {W:World} {B:Nat} {ns:List Nd} {p:Option Addr} {c n:Nat} {xs:List Value} (L:W.ownsRow B NT 6 (.slice p n c) n xs) (R:NdsC W B ns xs) (hl:ns.length=n) (i:Nat) (hi:i < n):
  ∃ q nd s t,p=some ⟨q,0,none⟩/\ns[i]?=some nd/\W.cell? ⟨q,i*6,none⟩=some (.int .i64 nd.op)/\W.cell? ⟨q,i*6+1,none⟩=some (.int .i64 nd.a)/\W.cell? ⟨q,i*6+2,none⟩=some (.int .i64 nd.b)/\W.cell? ⟨q,i*6+3,none⟩=some (.int .i64 nd.k)/\W.cell? ⟨q,i*6+4,none⟩=some s/\W.cell? ⟨q,i*6+5,none⟩=some t
   /\ OwnK .i64 3 W B s nd.D/\OwnK .i64 23 W B t nd.X:=by
 have J:ns[i]?=some (ns[i]'(by omega)):=List.getElem?_eq_getElem _;obtain ⟨s,t,e,M,ht⟩:=R.2 i _ J
 have H:∀ j u,((xs.drop (i*6)).take 6)[j]?=some u->xs[i*6+j]?=some u:=fun j u h=>by
  rw [List.getElem?_take] at h
  split at h
  ·rw [List.getElem?_drop] at h;exact h
  ·cases h
 rw [e] at H;rcases L.2 with ⟨h0,h1⟩|⟨g,O,U,V,hb,hg,rest⟩
 ·omega
 ·cases V
  have I:∀ j u,xs[j]?=some u->W.cell? ⟨g,j,none⟩=some u:=fun j u h=>by
   have:=L.cells (g:=g) rfl j u h;rw [a_u,Nat.zero_add] at this;exact this
  exact ⟨g,_,s,t,rfl,J,I _ _ (H 0 _ rfl),I _ _ (H 1 _ rfl),I _ _ (H 2 _ rfl),I _ _ (H 3 _ rfl),I _ _ (H 4 _ rfl),I _ _ (H 5 _ rfl),M,ht⟩
/-- A slice's type whose elements are nodes. -/
structure StT (P:Program) (t e:TypeId) (b:Nat):Prop where
 ht:P.underlying t=some (.slice e)
 hi:(P.info? e).map (fun i=>(i.zero.map fun z=>z.cells.size,i.size,i.bytes))=some (some 6,6,b)
/-- A literal's block of one node. -/
def LitS (e:TypeId) (B:Nat) (u:List Value) (v:Value) (W:World):Prop:=∃ g,v = .slice (some ⟨g,0,none⟩) 1 1/\W.heap[g]?=some (.cells u.toArray e (0,0))/\B<=g
theorem LitS.up {e:TypeId} {B:Nat} {u:List Value} {v:Value} {W W':World} (h:LitS e B u v W) (I:Below W.heap.size W W'):LitS e B u v W':=by
 obtain ⟨g,H,D,J⟩:=h;exact ⟨g,H,by rw [I.block g (a_i D)];exact D,J⟩
theorem LitS.grown {e:TypeId} {B:Nat} {u:List Value} {v:Value} {W W':World} {r:Option Nat} (h:LitS e B u v W) (I:W.grownBy W' r) (J:∀ k,r=some k->k < B):LitS e B u v W':=by
 obtain ⟨g,H,D,L⟩:=h;refine ⟨g,H,?_,L⟩;rw [I.block g (a_i D) (fun e=>by have:=J g e.symm;omega)];exact D
/-- A row of nodes of one's own. -/
def OwnN (e:TypeId) (B n:Nat) (xs:List Value) (v:Value) (W:World):Prop:=W.ownsRow B e 6 v n xs
theorem OwnN.up {e:TypeId} {B n:Nat} {xs:List Value} {v:Value} {W W':World} (h:OwnN e B n xs v W) (D:Below W.heap.size W W'):OwnN e B n xs v W':=a_A (S:=[]) h (Only.of D) (by simp)
theorem g_N {a b c:World} {r:Option Nat} (h:a.grownBy b r) (D:Below b.heap.size b c):a.grownBy c r:=⟨D.os.trans h.os,D.tape.trans h.tape,D.output.trans h.output,Nat.le_trans h.size D.size,fun k H I=>(D.block k (Nat.lt_of_lt_of_le H h.size)).trans (h.block k H I)⟩
theorem b_d {a b:World} (r:Option Nat) (h:Below a.heap.size a b):a.grownBy b r:=⟨h.os,h.tape,h.output,h.size,fun k D _=>h.block k D⟩
theorem d_N {a b c:World} {r:Option Nat} (h:a.grownBy b r) (D:b.grownBy c r):a.grownBy c r:=⟨D.os.trans h.os,D.tape.trans h.tape,D.output.trans h.output,Nat.le_trans h.size D.size,fun k H I=>(D.block k (Nat.lt_of_lt_of_le H h.size) I).trans (h.block k H I)⟩
end Go.Proofs.YtjlofobnmjompaaGreatDoor.Wd
namespace Go.Proofs
open Go.Shelf
def Tryz.lays134_ren:Go.Shelf.Ren:=⟨fun|134=>191|129=>195|n=>n,fun|53=>43|3=>3|4=>4|46=>116|5=>5|9=>9|n=>n,fun|n=>n⟩
theorem Tryz.lays134:Go.Proofs.Lays.n134 Tryz.prog Tryz.lays134_ren:={
 mixed:=by kernel_rfl
 f129:=Tryz.func195.trans (congrArg some (by kernel_rfl))
 f134:=Tryz.func191.trans (congrArg some (by kernel_rfl))
 t3:=Tryz.underlying3
 a3:=Tryz.isAgg3
 z3:=Tryz.sizeOf3
 v3:=Tryz.zeroValue3
 t4:=Tryz.underlying4
 a4:=Tryz.isAgg4
 z4:=Tryz.sizeOf4
 v4:=Tryz.zeroValue4
 t5:=Tryz.underlying5
 a5:=Tryz.isAgg5
 z5:=Tryz.sizeOf5
 v5:=Tryz.zeroValue5
 t9:=Tryz.underlying9
 a9:=Tryz.isAgg9
 z9:=Tryz.sizeOf9
 v9:=Tryz.zeroValue9
 t46:=Tryz.underlying116
 a46:=Tryz.isAgg116
 z46:=Tryz.sizeOf116
 v46:=Tryz.zeroValue116
 t53:=Tryz.underlying43
 a53:=Tryz.isAgg43
 z53:=Tryz.sizeOf43
 v53:=Tryz.zeroValue43 }
theorem Tryz.bits_LeadingZeros64 (x:Int) (w:World) (H:0<=x) (D:x<=18446744073709551615):
  Calls Tryz.prog 191 #[.int .u64 x] w fun e I=>e = .returned (.int .i64 (64 - (Lib.bitLen x.toNat:Int)))/\I=w:=Any.bits_LeadingZeros64 Tryz.lays134 x w H D
def Tryz.lays264_ren:Go.Shelf.Ren:=⟨fun|264=>130|n=>n,fun|53=>43|46=>116|n=>n,fun|n=>n⟩
theorem Tryz.lays264:Go.Proofs.Lays.n264 Tryz.prog Tryz.lays264_ren:={
 mixed:=by kernel_rfl
 f264:=Tryz.func130.trans (congrArg some (by kernel_rfl))
 t46:=Tryz.underlying116
 a46:=Tryz.isAgg116
 z46:=Tryz.sizeOf116
 v46:=Tryz.zeroValue116
 t53:=Tryz.underlying43
 a53:=Tryz.isAgg43
 z53:=Tryz.sizeOf43
 v53:=Tryz.zeroValue43 }
open Go.RowKit Go.Lib in
theorem Tryz.bits_Mul64 (x y:Nat) (I:x < 18446744073709551616) (D:y < 18446744073709551616) (w:World):
  Calls Tryz.prog 130 #[.int .u64 x,.int .u64 y] w fun e H=>e = .returned (.tuple #[.int .u64 ((x*y / 18446744073709551616:Nat):Int),.int .u64 ((x*y % 18446744073709551616:Nat):Int)])/\H=w:=Any.bits_Mul64 Tryz.lays264 x y I D w
def Tryz.lays212_ren:Go.Shelf.Ren:=⟨fun|212=>102|263=>129|264=>130|n=>n,fun|46=>116|51=>191|146=>192|53=>43|148=>80|n=>n,fun|n=>n⟩
theorem Tryz.lays212:Go.Proofs.Lays.n212 Tryz.prog Tryz.lays212_ren:={
 mixed:=by kernel_rfl
 f212:=Tryz.func102.trans (congrArg some (by kernel_rfl))
 f263:=Tryz.func129.trans (congrArg some (by kernel_rfl))
 f264:=Tryz.func130.trans (congrArg some (by kernel_rfl))
 t46:=Tryz.underlying116
 a46:=Tryz.isAgg116
 z46:=Tryz.sizeOf116
 v46:=Tryz.zeroValue116
 t51:=Tryz.underlying191
 a51:=Tryz.isAgg191
 z51:=Tryz.sizeOf191
 v51:=Tryz.zeroValue191
 t53:=Tryz.underlying43
 a53:=Tryz.isAgg43
 z53:=Tryz.sizeOf43
 v53:=Tryz.zeroValue43
 t146:=Tryz.underlying192
 a146:=Tryz.isAgg192
 z146:=Tryz.sizeOf192
 v146:=Tryz.zeroValue192
 t148:=Tryz.underlying80
 a148:=Tryz.isAgg80
 z148:=Tryz.sizeOf80
 v148:=Tryz.zeroValue80 }
open Go.RowKit Go.Lib in
theorem Tryz.bits_Mul (x y:Nat) (I:x < 18446744073709551616) (D:y < 18446744073709551616) (w:World):
  Calls Tryz.prog 102 #[.int .u64 x,.int .u64 y] w fun e H=>e = .returned (.tuple #[.int .u64 ((x*y / 18446744073709551616:Nat):Int),.int .u64 ((x*y % 18446744073709551616:Nat):Int)])/\H=w:=Any.bits_Mul Tryz.lays212 x y I D w
end Go.Proofs
namespace Go.Proofs.YtjlofobnmjompaaGreatDoor.Fx
open Go.RowKit
theorem ret_int {k:IntKind} {a b:Int} (h:a=b):Ending.returned (.int k a) = .returned (.int k b):=by rw [h]
theorem bound_any (b:Bool) (w:World):
  Calls Tryz.prog 147 #[.bool b] w fun e D=>e = .returned (.int .i64 (lim b))/\D=w:=by
 cases b
 all_goals
  go_enter Tryz.func147,Tryz.ntmps147;go_wp2;go_ret;exact ⟨rfl,rfl⟩
theorem size_any (a:Int) (n:Nat) (I:InR a) (D:a.natAbs=n) (w:World):
  Calls Tryz.prog 162 #[.int .i64 a] w fun e J=>e = .returned (.int .u64 n)/\J=w:=by
 unfold InR at I;have H:Hid (a.natAbs=n):=D;clear D;by_cases h:a < 0
 all_goals
  go_enter Tryz.func162,Tryz.ntmps162;go_wp2;go_ret;refine ⟨ret_int ?_,rfl⟩;have D:=H.out
  try simp only [IntKind.wrap_u64]
  omega
theorem j_y (b:Bool) (n:Nat) (H:n < 18446744073709551616) (w:World):
  Calls Tryz.prog 163 #[.bool b,.int .u64 n] w fun e D=>e = .returned (.int .i64 (hold (sg b n)))/\D=w:=by
 by_cases h:9223372036854775807 < n
 ·go_enter Tryz.func163,Tryz.ntmps163;go_wp2_with (go_at_call 147;refine (bound_any _ _).mono ?_;rintro e D ⟨rfl,rfl⟩)
  go_ret;exact ⟨ret_int (g_M b n h),rfl⟩
 ·cases b
  all_goals
   go_enter Tryz.func163,Tryz.ntmps163;go_wp2;go_ret
   first|exact ⟨ret_int (p_L n (by omega)),rfl⟩|exact ⟨ret_int (l_w n (by omega)),rfl⟩
theorem nearest_any (q r d:Nat) (I:q < 18446744073709551615) (H:r < d) (J:d<=9223372036854775808) (w:World):
  Calls Tryz.prog 184 #[.int .u64 q,.int .u64 r,.int .u64 d] w fun e D=>e = .returned (.int .u64 (nr q r d:Nat))/\D=w:=by
 go_enter Tryz.func184,Tryz.ntmps184;go_wp2
 all_goals
  go_ret;refine ⟨ret_int ?_,rfl⟩
  try simp only [beq_iff_eq,beq_eq_false_iff_ne,ne_eq] at *
  unfold nr
  split <;> omega
theorem i_n (H D:Nat) (L:H < 2147483648) (I:D < 18446744073709551616) (w:World):
  Calls Tryz.prog 164 #[.int .u64 H,.int .u64 D] w fun e J=>e = .returned (.int .u64 (rq (H*18446744073709551616+D) 4294967296:Nat))/\J=w:=by
 go_enter Tryz.func164,Tryz.ntmps164;go_wp2_with fail
 rw [joinN H D (by omega) I,s_I D I];have c:=nearest_any (H*4294967296+D / 4294967296) (D % 4294967296) 4294967296 (by omega) (by omega) (by omega) w;rw [show ((4294967296:Nat):Int)=4294967296 from rfl] at c;refine c.mono ?_;rintro e J ⟨rfl,rfl⟩;go_wp2;go_ret;refine ⟨ret_int ?_,rfl⟩;rw [<- n_G,p_M,p_N]
theorem of_any (n:Int) (H:InR n) (w:World):
  Calls Tryz.prog 185 #[.int .i64 n] w fun e D=>e = .returned (.int .i64 (hold (n*4294967296)))/\D=w:=by
 unfold InR at H;by_cases I:n > 2147483647
 ·go_enter Tryz.func185,Tryz.ntmps185;go_wp2;go_ret;exact ⟨ret_int (f_q (by omega)).symm,rfl⟩
 ·by_cases J:n < -2147483648
  ·go_enter Tryz.func185,Tryz.ntmps185;go_wp2;go_ret;exact ⟨ret_int (f_r (by omega)).symm,rfl⟩
  ·go_enter Tryz.func185,Tryz.ntmps185;go_wp2;go_ret;refine ⟨ret_int ?_,rfl⟩;rw [hold_in (by omega) (by omega)]
theorem add_any (a b:Int) (D:InR a) (hb:InR b) (w:World):
  Calls Tryz.prog 118 #[.int .i64 a,.int .i64 b] w fun e H=>e = .returned (.int .i64 (hold (a+b)))/\H=w:=by
 go_enter Tryz.func118,Tryz.ntmps118;go_wp2_with (go_at_call 147;refine (bound_any _ _).mono ?_;rintro e H ⟨rfl,rfl⟩)
 all_goals
  go_ret
  first
  |exact ⟨ret_int (l_x a b D hb ‹_›),rfl⟩
  |exact ⟨ret_int (n_D a b D hb ‹_›),rfl⟩
theorem sub_any (a b:Int) (D:InR a) (hb:InR b) (w:World):
  Calls Tryz.prog 148 #[.int .i64 a,.int .i64 b] w fun e H=>e = .returned (.int .i64 (hold (a - b)))/\H=w:=by
 go_enter Tryz.func148,Tryz.ntmps148;go_wp2_with (go_at_call 147;refine (bound_any _ _).mono ?_;rintro e H ⟨rfl,rfl⟩)
 all_goals
  go_ret
  first
  |exact ⟨ret_int (l_y a b D hb ‹_›),rfl⟩
  |exact ⟨ret_int (n_F a b D hb ‹_›),rfl⟩
theorem n_M (x y D H:Nat) (L:x < 18446744073709551616) (M:y < 18446744073709551616) (I:D=x*y / 18446744073709551616) (J:H=x*y % 18446744073709551616) (w:World):
  Calls Tryz.prog 130 #[.int .u64 x,.int .u64 y] w fun e O=>e = .returned (.tuple #[.int .u64 D,.int .u64 H])/\O=w:=by
 subst I J;exact Tryz.bits_Mul64 x y L M w
theorem mul_any (a b:Int) (V:InR a) (hb:InR b) (w:World):
  Calls Tryz.prog 134 #[.int .i64 a,.int .i64 b] w fun e I=>e = .returned (.int .i64 (mulI a b))/\I=w:=by
 have hx:a.natAbs<=9223372036854775808:=by unfold InR at V;omega
 have hy:b.natAbs<=9223372036854775808:=by unfold InR at hb;omega
 obtain ⟨x,M⟩:∃ x,a.natAbs=x:=⟨_,rfl⟩
 obtain ⟨y,O⟩:∃ y,b.natAbs=y:=⟨_,rfl⟩
 obtain ⟨D,R⟩:∃ D,D=x*y / 18446744073709551616:=⟨_,rfl⟩
 obtain ⟨H,U⟩:∃ H,H=x*y % 18446744073709551616:=⟨_,rfl⟩
 have hh:D<=4611686018427387904:=by
  have:=Nat.mul_le_mul (M ▸ hx) (O ▸ hy);omega
 have hl:H < 18446744073709551616:=by omega
 have E:Hid (a.natAbs=x/\b.natAbs=y/\D=x*y / 18446744073709551616/\H=x*y % 18446744073709551616):=⟨M,O,R,U⟩
 have J:x < 18446744073709551616:=by omega
 have L:y < 18446744073709551616:=by omega
 clear M O R U;by_cases hf:D < 2147483648
 all_goals
  go_enter Tryz.func134,Tryz.ntmps134;go_wp2_with fail
  refine (size_any a x V E.out.1 _).mono ?_;rintro e I ⟨rfl,rfl⟩;go_wp2_with fail
  refine (size_any b y hb E.out.2.1 _).mono ?_;rintro e I ⟨rfl,rfl⟩;go_wp2_with fail
  refine (n_M x y D H J L E.out.2.2.1 E.out.2.2.2 _).mono ?_;rintro e I ⟨rfl,rfl⟩;go_wp2_with fail
 ·refine (i_n D H hf hl _).mono ?_;rintro e I ⟨rfl,rfl⟩;go_wp2_with fail
  refine (j_y _ _ (n_H D H hf hl) _).mono ?_;rintro e I ⟨rfl,rfl⟩;go_wp2;go_ret;exact ⟨ret_int (n_I a b x y E.out.1 E.out.2.1 D H E.out.2.2.1 E.out.2.2.2),rfl⟩
 ·refine (bound_any _ _).mono ?_;rintro e I ⟨rfl,rfl⟩;go_wp2;go_ret;exact ⟨ret_int (p_O a b x y E.out.1 E.out.2.1 (by have:=E.out.2.2.1;omega)),rfl⟩
end Go.Proofs.YtjlofobnmjompaaGreatDoor.Fx
