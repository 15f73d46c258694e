/- What a tape reckons, as the document's table has it: each Op's error, sides, numbers; what comes out is a tensor; numbers too far off are as any that is none. · A region that draws its order, cut into segments: what stands behind a cut waits for all ahead of it; in a segment at most one operation writes what stood (a call of any kind), the others read, call or make memory; each segment is walked once, in the order of the text. · What the document says of Leaf and Do over nodes, and that nodes stay tensors. · What losses lay on a tape, as the document has it: steps one behind the other, and wha -/
import Derived.Test.YtjlofobnmjompaaGreatDoorJ02
import Derived.Test.YtjlofobnmjompaaGreatDoorJ04
import Derived.Test.YtjlofobnmjompaaGreatDoorJ10
import Derived.Test.YtjlofobnmjompaaGreatDoorJ13
import Derived.Test.YtjlofobnmjompaaGreatDoorJ14
import Derived.Test.YtjlofobnmjompaaGreatDoorJ15
import Derived.Test.YtjlofobnmjompaaGreatDoorJ16
import Derived.Test.YtjlofobnmjompaaGreatDoorJ17
import Derived.Test.YtjlofobnmjompaaGreatDoorJ01
import Derived.Test.YtjlofobnmjompaaGreatDoorJ12
set_option linter.unusedVariables false
set_option linter.unusedSimpArgs false
set_option maxHeartbeats 16000000
set_option maxRecDepth 16000
namespace Go.Proofs.YtjlofobnmjompaaGreatDoor.Wd
open Go.RowKit Fx
abbrev twoP (op:Int):Prop:=op=2∨op=3∨op=4∨op=6∨op=12
abbrev byP (op:Int):Prop:=op=5∨op=8∨op=11∨op=12∨op=13
/-- The table. -/
def rkE (op:Int) (D X D' X':List Int) (k:Int):Int:=
 if op=2∨op=3∨op=4 then eachE D X D' X' else if op=5 then scaleE D X else if op=6 then mE D X D' X' else if op=7 then flE D X else if op=8 then smE D X k
 else if op=9∨op=10 then matE D X else if op=11 then bentE k D X else if op=12 then rwE D X D' X' k else if op=13 then plE D X k else shpE D X [(X.length:Int)]
def rkD (op:Int) (D X D' X':List Int) (k:Int):List Int:=
 if op=2∨op=3∨op=4 then eachD D X D' X' else if op=5 then scaleD D X else if op=6 then mD D X D' X' else if op=7 then flD D X else if op=8 then smD D X k
 else if op=9∨op=10 then [] else if op=11 then bentD k D X else if op=12 then rwD D X D' X' k else if op=13 then plD D X k else shpD D X [(X.length:Int)]
def rkV (op:Int) (D X D' X':List Int) (k:Int):List Int:=
 if op=2 then eachV (fun a b=>Fx.hold (a+b)) D X D' X' else if op=3 then eachV (fun a b=>Fx.hold (a - b)) D X D' X' else if op=4 then eachV Fx.mulI D X D' X' else if op=5 then scaleV D X k else if op=6 then mV D X D' X' else if op=7 then flV D X else if op=8 then smV D X k
 else if op=9 then (if isP D X then [allV D X] else []) else if op=10 then (if isP D X then [meanV D X] else []) else if op=11 then bentV k D X else if op=12 then rwV D X D' X' k else if op=13 then plV D X k else shpV D X [(X.length:Int)]
/-- A tensor: its numbers are Go's. -/
def TnsG (D X:List Int):Prop:=isP D X∧RI D∧RI X
theorem RI_good {D:List Int} (h:goodN (ntl D)):RI D:=by
 have:=RI_itl h.le
 rwa [itl_ntl h.2.1] at this
theorem tnsg {D X:List Int} (h:isP D X) (hx:RI X):TnsG D X:=⟨h,RI_good h.1,hx⟩
theorem isP_itl {J:List Nat} {X:List Int} (h:goodN J) (hx:X.length=prodN J):isP (itl J) X:=by
 unfold isP
 rw [ntl_itl]
 exact ⟨h,hx⟩
theorem RI_map {α:Type} {l:List α} {f:α→Int} (h:∀ a,a∈l→InR (f a)):RI (l.map f):=fun y hy=>by
 obtain ⟨a,ha,rfl⟩:=List.mem_map.1 hy
 exact h a ha
theorem InR_get {x:List Int} (h:RI x) (i:Nat):InR (x.getD i 0):=by
 rcases Nat.lt_or_ge i x.length with hi|hi
 ·exact h.at i hi
 ·rw [List.getD_eq_getElem?_getD,List.getElem?_eq_none hi]
  show InR 0
  unfold InR
  omega
theorem each_g {op:Int→Int→Int} (ho:∀ a b,InR (op a b)) {d x d' y:List Int} (h:eachE d x d' y=0):TnsG (eachD d x d' y) (eachV op d x d' y):=by
 by_cases hp:isP d x∧isP d' y
 ·by_cases hj:joinE d d'=0
  ·obtain ⟨a,b,J,hJ⟩:=joint hp hj
   obtain ⟨_,e2,e3⟩:=hJ.E (op:=op)
   rw [e2,e3]
   exact tnsg (isP_itl hJ.gJ (by simp)) (RI_map fun i _=>ho _ _)
  ·rw [(each_bad (op:=op) hp hj).1] at h
   exact absurd h hj
 ·rw [(each_none (op:=op) hp).1] at h
  cases h
theorem scale_g {d x:List Int} {k:Int} (h:scaleE d x=0):TnsG (scaleD d x) (scaleV d x k):=by
 unfold scaleE at h
 unfold scaleD scaleV
 by_cases hp:isP d x
 ·rw [if_pos hp,if_pos hp]
  exact tnsg ⟨hp.1,by rw [List.length_map];exact hp.2⟩ (RI_map fun i _=>mulI_rng _ _)
 ·rw [if_neg hp] at h
  cases h
theorem bent_g {k:Int} {d x:List Int} (hx:RI x) (h:bentE k d x=0):TnsG (bentD k d x) (bentV k d x):=by
 unfold bentE at h
 unfold bentD bentV
 by_cases hp:(1≤k∧k≤5)∧isP d x
 ·rw [if_pos hp,if_pos hp]
  exact tnsg ⟨hp.2.1,by rw [List.length_map];exact hp.2.2⟩ (RI_map fun i hi=>bend_rng (hx i hi))
 ·rw [if_neg hp] at h
  cases h
theorem shp_g {d x d':List Int} (hx:RI x) (h:shpE d x d'=0):TnsG (shpD d x d') (shpV d x d'):=by
 unfold shpE at h
 unfold shpD shpV
 by_cases hp:isP d x∧goodN (ntl d')
 ·rw [if_pos hp] at h
  by_cases hl:prodN (ntl d')=x.length
  ·rw [if_pos ⟨hp,hl⟩,if_pos ⟨hp,hl⟩]
   exact tnsg ⟨hp.2,hl.symm⟩ hx
  ·rw [if_neg hl] at h
   cases h
 ·rw [if_neg hp] at h
  cases h
theorem is_nil (v:Int):isP [] [v]:=by
 unfold isP
 refine ⟨⟨by simp [ntl],fun y hy=>by simp [ntl] at hy,by simp [ntl,prodN]⟩,by simp [ntl,prodN]⟩
theorem all_g {d x:List Int} (v:Int) (hv:InR v):TnsG [] [v]:=tnsg (is_nil v) fun y hy=>by
 simp at hy
 subst hy
 exact hv
theorem allV_rng (d x:List Int):InR (allV d x):=by
 unfold allV
 split
 ·exact hold_rng _
 ·unfold InR;omega
theorem meanV_rng (d x:List Int):InR (meanV d x):=by
 unfold meanV meanI
 split
 ·exact hold_rng _
 ·unfold InR;omega
theorem fl_g {d x:List Int} (hx:RI x) (h:flE d x=0):TnsG (flD d x) (flV d x):=by
 unfold flE at h
 unfold flD flV
 by_cases hp:isP d x
 ·rw [if_pos hp] at h
  by_cases h2:d.length=2
  ·rw [if_pos ⟨hp,h2⟩,if_pos ⟨hp,h2⟩]
   obtain ⟨D0,D1,rfl,hl,h0,h1,hm⟩:=two_sides hp h2
   show TnsG [(D1:Int),(D0:Int)] (flipV D0 D1 x)
   refine tnsg (is_two (by unfold flipV;simp [Nat.mul_comm]) h1 h0 (by rw [Nat.mul_comm];exact hm)) ?_
   unfold flipV
   exact RI_map fun i _=>InR_get hx _
  ·rw [if_neg h2] at h
   cases h
 ·rw [if_neg hp] at h
  cases h
theorem m_g {d x d' y:List Int} (h:mE d x d' y=0):TnsG (mD d x d' y) (mV d x d' y):=by
 unfold mE at h
 unfold mD mV
 by_cases hp:isP d x∧isP d' y
 ·rw [if_pos hp] at h
  by_cases hm:mP d x d' y
  ·rw [if_pos hm] at h
   by_cases hg:mG d d'
   ·rw [if_pos ⟨hm,hg⟩,if_pos ⟨hm,hg⟩]
    obtain ⟨A,C,rfl,_⟩:=two_sides hm.1.1 hm.2.2.1
    obtain ⟨C',E,rfl,_⟩:=two_sides hm.1.2 hm.2.1
    show TnsG [(A:Int),(E:Int)] (mulV A C E x y)
    have hg':=good_two.1 hg
    refine tnsg (is_two (by unfold mulV;simp) hg'.1 hg'.2.1 hg'.2.2) ?_
    unfold mulV
    exact RI_map fun i _=>by unfold mulN rnd;exact hold_rng _
   ·rw [if_neg hg] at h
    cases h
  ·rw [if_neg hm] at h
   cases h
 ·rw [if_neg hp] at h
  cases h
theorem sm_g {d x:List Int} {side:Int} (h:smE d x side=0):TnsG (smD d x side) (smV d x side):=by
 unfold smE at h
 unfold smD smV
 by_cases hp:smP d x side
 ·rw [if_pos hp,if_pos hp]
  have hg:=hp.1.1
  have hs:side.toNat < (ntl d).length:=by
   have:=hp.2
   rw [ntl_len]
   omega
  have hless:goodN (lessN (ntl d) side.toNat):=good_less hg _ hs
  refine tnsg (isP_itl hless (by unfold sumV;simp)) ?_
  unfold sumV
  exact RI_map fun i _=>by unfold sumN;exact hold_rng _
 ·rw [if_neg hp] at h
  cases h
theorem rw_g {d x d' y:List Int} {st:Int} (h:rwE d x d' y st=0):TnsG (rwD d x d' y st) (rwV d x d' y st):=by
 unfold rwE at h
 unfold rwD rwV
 by_cases hp:rwA d x d' y st
 ·rw [if_pos hp] at h
  by_cases hs:rwS d d'
  ·rw [if_pos hs] at h
   rw [if_pos ⟨hp,hs⟩,if_pos ⟨hp,hs⟩]
   unfold gatE at h
   by_cases hg:goodN (ntl (rwO d d' st))
   ·unfold newD
    rw [if_pos hg,if_pos hg]
    obtain ⟨O,C,W,rfl,_⟩:=three_sides hp.2.1 hs.2.1
    refine tnsg ⟨hg,?_⟩ ?_
    ·rw [convV_len]
     exact (prod_two O _).symm
    ·unfold convV
     exact RI_map fun i _=>by unfold convN rnd;exact hold_rng _
   ·rw [if_neg hg] at h
    cases h
  ·rw [if_neg hs] at h
   cases h
 ·rw [if_neg hp] at h
  cases h
theorem pl_g {d x:List Int} {wd:Int} (hx:RI x) (h:plE d x wd=0):TnsG (plD d x wd) (plV d x wd):=by
 unfold plE at h
 unfold plD plV
 by_cases hp:isP d x
 ·rw [if_pos hp] at h
  by_cases h2:d.length=2
  ·rw [if_pos h2] at h
   by_cases hw:plW d wd
   ·rw [if_pos ⟨hp,h2,hw⟩,if_pos ⟨hp,h2,hw⟩]
    obtain ⟨D0,D1,rfl,hl,h0,h1,hm⟩:=two_sides hp h2
    have hw':1≤wd∧wd≤(D1:Int):=hw
    obtain ⟨W,rfl⟩:∃ W:Nat,wd=W:=⟨wd.toNat,by omega⟩
    show TnsG [(D0:Int),((D1 / W:Nat):Int)] (poolV D0 D1 (D1 / W) W x)
    have hq:1≤D1 / W:=Nat.div_pos (by omega) (by omega)
    have hle:D0*(D1 / W)≤4096:=Nat.le_trans (Nat.mul_le_mul_left D0 (Nat.div_le_self D1 W)) hm
    refine tnsg (is_two (poolV_len _ _ _ _ _) h0 hq hle) ?_
    unfold poolV
    exact RI_map fun i _=>InR_get hx _
   ·rw [if_neg hw] at h
    cases h
  ·rw [if_neg h2] at h
   cases h
 ·rw [if_neg hp] at h
  cases h
theorem rk_g {op:Int} (h1:2≤op) (h2:op≤14) {D X D' X':List Int} {k:Int} (hx:RI X) (h:rkE op D X D' X' k=0):TnsG (rkD op D X D' X' k) (rkV op D X D' X' k):=by
 have hall:op=2∨op=3∨op=4∨op=5∨op=6∨op=7∨op=8∨op=9∨op=10∨op=11∨op=12∨op=13∨op=14:=by omega
 rcases hall with rfl|rfl|rfl|rfl|rfl|rfl|rfl|rfl|rfl|rfl|rfl|rfl|rfl
 ·exact each_g (fun a b=>hold_rng _) h
 ·exact each_g (fun a b=>hold_rng _) h
 ·exact each_g (fun a b=>mulI_rng a b) h
 ·exact scale_g h
 ·exact m_g h
 ·exact fl_g hx h
 ·exact sm_g h
 ·have hp:isP D X:=by
   by_cases hp:isP D X
   ·exact hp
   ·have h':matE D X=0:=h
    unfold matE at h'
    rw [if_neg hp] at h'
    cases h'
  show TnsG [] (if isP D X then [allV D X] else [])
  rw [if_pos hp]
  exact all_g (d:=D) (x:=X) _ (allV_rng D X)
 ·have hp:isP D X:=by
   by_cases hp:isP D X
   ·exact hp
   ·have h':matE D X=0:=h
    unfold matE at h'
    rw [if_neg hp] at h'
    cases h'
  show TnsG [] (if isP D X then [meanV D X] else [])
  rw [if_pos hp]
  exact all_g (d:=D) (x:=X) _ (meanV_rng D X)
 ·exact bent_g hx h
 ·exact rw_g h
 ·exact pl_g hx h
 ·exact shp_g hx h
end Go.Proofs.YtjlofobnmjompaaGreatDoor.Wd
namespace Go.Proofs.YtjlofobnmjompaaGreatDoor.Wd
open Go.RowKit
section
variable {P : Program} {ops : Array Oper} {Q : Exit → Act → World → Prop}
/-- The first m of n have come up. -/
def upTo (n m:Nat):Array Bool:=Array.replicate m true++Array.replicate (n - m) false
theorem upTo_size {n m:Nat} (h:m≤n):(upTo n m).size=n:=by simp [upTo];omega
theorem upTo_lt {n m j:Nat} (h:j < m) (b:Bool):(upTo n m).getD j b=true:=by
 simp [upTo,Array.getD_eq_getD_getElem?,Array.getElem?_append,h]
theorem upTo_ge {n m j:Nat} (h:m≤j) (hj:j < n) (b:Bool):(upTo n m).getD j b=false:=by
 simp [upTo,Array.getD_eq_getD_getElem?,Array.getElem?_append,Nat.not_lt.2 h,Array.getElem?_replicate]
 rw [if_pos (by omega)]
 rfl
theorem upTo_out {n m j:Nat} (h:m≤n) (hj:n≤j) (b:Bool):(upTo n m).getD j b=b:=by
 simp [upTo,Array.getD_eq_getD_getElem?,Array.getElem?_append,Nat.not_lt.2 (Nat.le_trans h hj),Array.getElem?_replicate]
 rw [if_neg (by omega)]
 rfl
theorem upTo_count {n m:Nat} (h:m≤n):(upTo n m).toList.count false=n - m:=by
 simp [upTo,List.count_replicate]
theorem upTo_eq {n m:Nat} {l:Array Bool} (hs:l.size=n) (hm:m≤n) (h1:∀ j,j < m→l.getD j false=true) (h2:∀ j,m≤j→j < n→l.getD j true=false):l=upTo n m:=by
 refine Array.ext (by rw [hs,upTo_size hm]) fun j hj hj'=>?_
 have hjn:j < n:=by omega
 rcases Nat.lt_or_ge j m with c|c
 ·have e1:=h1 j c
  have e2:=upTo_lt (n:=n) c false
  simp only [Array.getD_eq_getD_getElem?,Array.getElem?_eq_getElem hj,Array.getElem?_eq_getElem hj',Option.getD_some] at e1 e2
  rw [e1,e2]
 ·have e1:=h2 j c hjn
  have e2:=upTo_ge c hjn true
  simp only [Array.getD_eq_getD_getElem?,Array.getElem?_eq_getElem hj,Array.getElem?_eq_getElem hj',Option.getD_some] at e1 e2
  rw [e1,e2]
/-- The region from operation number m on, in any order that it may take. -/
def wpFrom (P:Program) (ops:Array Oper) (Q:Exit→Act→World→Prop) (m:Nat) (a:Act) (w:World):Prop:=wpAny P .any ops Q (ops.size - m) (upTo ops.size m) a w
theorem from_region {id:Nat} {a:Act} {w:World} (hm:P.follows .mixedOrders=true) (h:wpFrom P ops Q 0 a { w with drawn:=w.drawn+1 }):(Code.region id ops true).wp P Q a w:=by
 refine wp_region_any hm ?_
 unfold wpFrom at h
 have:upTo ops.size 0=Array.replicate ops.size false:=by simp [upTo]
 rw [this,Nat.sub_zero] at h
 exact h
/-- The rest is in the order of the text. -/
def tailB (ops:Array Oper) (m:Nat):Bool:=
 decide (m≤ops.size) && ((List.range ops.size).all fun i=>match ops[i]? with
  | none=>false
  | some o=>(o.after.all fun e=>!Region.binds .any e || decide (e.on < i)) && (List.range i).all fun j=>decide (j < m) || waits o j)
theorem from_list {a:Act} {w:World} (m:Nat) (hB:tailB ops m=true) (h:wpList P ops Q (ops.toList.drop m) a w):wpFrom P ops Q m a w:=by
 simp only [tailB,Bool.and_eq_true,decide_eq_true_eq] at hB
 obtain ⟨hm,hback⟩:=hB
 have hb:∀ i o,ops[i]?=some o→∀ e∈o.after,Region.binds .any e=true→e.on < i:=by
  intro i o ho e he hbi
  have:=List.all_eq_true.1 hback i (List.mem_range.2 (Array.getElem?_eq_some_iff.1 ho).1)
  simp only [ho,Bool.and_eq_true] at this
  have h1:=Array.all_eq_true_iff_forall_mem.1 this.1 e he
  simpa [hbi] using h1
 have hT:∀ i o,ops[i]?=some o→∀ j,m≤j→j < i→waits o j=true:=by
  intro i o ho j hj hji
  have:=List.all_eq_true.1 hback i (List.mem_range.2 (Array.getElem?_eq_some_iff.1 ho).1)
  simp only [ho,Bool.and_eq_true] at this
  have:=List.all_eq_true.1 this.2 j (List.mem_range.2 hji)
  simp only [Bool.or_eq_true,decide_eq_true_eq] at this
  rcases this with h|h
  ·omega
  ·exact h
 exact tail_any hb hT _ m _ a w (upTo_size hm) (Nat.le_refl _) (upTo_count hm) (fun j hj=>upTo_lt hj false) (fun j h1 h2=>upTo_ge h1 h2 true) h
/-- A family of worlds of a class, which holds with each world all that keep what stood in it. -/
structure FamC (C:World→Prop) (F:World→World):Prop where
 cls:∀ d,C (F d)
 on:∀ d W,Below (F d).heap.size (F d) W→∃ d',W=F d'
theorem famC_top {C:World→Prop} (hC:∀ W W',C W→Below W.heap.size W W'→C W') {W:World} (h:C W):FamC C (onTop W):=
 ⟨fun d=>hC _ _ h (onTop_below W d),fun d W' hb=>of_below ((onTop_below W d).trans (hb.mono (onTop_below W d).size))⟩
/-- What the one writing operation leaves. -/
def leavesUpon (P:Program) (φ:Value→World→Prop) (W:World):Result Next→Prop
 | .ok (.value u) W'=>φ u W'
 | .ok .skip W'=>φ undef W'
 | .ok (.enter f args) W'=>W'=W∧Calls P f args W (fun e W''=>∃ v,e = .returned v∧φ v W'')
 | _=>False
def leavesR (P:Program) (o:Oper) (a:Act) (W:World) (φ:Value→World→Prop):Prop:=leavesUpon P φ W ((execOp a.eval o).run P W)
/-- The walk of a segment in the order of the text; operation number c is the one that may write (none, if c is not among the told). -/
def segWalk (P:Program) (ops:Array Oper) (C:Bool→World→Prop) (T:World→World→Prop) (c:Nat) (ks:List Told) (x:Nat→Value) (G:Act):Nat→List Oper→Act→Prop
 | _,[],a=>a=G
 | i,o :: l,a=>match toldAt ks i with
  | none=>∃ v,(∀ b F,FamC (C b) F→Facts ops ks o x F→if Region.wanted o (yielded ops a.tmps)=true then ∀ K:Act→Prop,K (a.put o.dst v)→o.quiet P a (fun W=>∃ d,W=F d) K else v=undef)∧segWalk P ops C T c ks x G (i+1) l (a.put o.dst v)
  | some e=>(Region.wanted o (yielded ops a.tmps)=true∧(i≠c→∀ b F,FamC (C b) F→Facts ops ks o x F→∀ d,yieldsR P o a (F d) e.φ)∧(i=c→∀ W,C false W→Facts ops ks o x (fun _=>W)→leavesR P o a W (fun v W'=>e.φ v W'∧C true W'∧T W W')))∧segWalk P ops C T c ks x G (i+1) l (a.put (some e.t) (x e.k))
theorem put_out {a:Act} {t:Nat} {v:Value} (h:a.tmps.size≤t):a.put (some t) v=a:=by
 cases a
 simp only at h
 simp [Act.put,Array.setIfInBounds,Nat.not_lt.2 h]
/-- The slot that an operation writes; one beyond the frame's where it writes none (a store). -/
def dstOf (n:Nat) (o:Oper) (t:Tmp):Prop:=o.dst=some t∨(o.dst=none∧n≤t)
theorem dstOf.put {n:Nat} {o:Oper} {t:Tmp} (h:dstOf n o t) {a:Act} (hn:a.tmps.size=n) (v:Value):a.put (some t) v=a.put o.dst v:=by
 rcases h with h|⟨h,h2⟩
 ·rw [h]
 ·rw [h,put_out (by omega)]
  rfl
theorem seg_off {C:Bool→World→Prop} {T:World→World→Prop} {c:Nat} {ks:List Told} {x:Nat→Value} {G:Act} {n:Nat}:∀ (l:List Oper) (i:Nat) (a:Act),a.tmps.size=n→(∀ j e,toldAt ks (i+j)=some e→∀ o,l[j]?=some o→dstOf n o e.t)→segWalk P ops C T c ks x G i l a→
  G.tmps.size=a.tmps.size∧G.defers=a.defers∧∀ t,t∉dsts l→G.tmps[t]?=a.tmps[t]?
 | [],i,a,_,_,h=>by
  obtain rfl:a=G:=h
  exact ⟨rfl,rfl,fun _ _=>rfl⟩
 | o :: l,i,a,hn,hk,h=>by
  obtain ⟨v,hv⟩:∃ v,segWalk P ops C T c ks x G (i+1) l (a.put o.dst v):=by
   rw [segWalk] at h
   split at h
   ·obtain ⟨v,_,h2⟩:=h
    exact ⟨v,h2⟩
   ·rename_i e he
    have:=hk 0 e he o rfl
    exact ⟨_,by rw [← this.put hn];exact h.2⟩
  obtain ⟨h1,h2,h3⟩:=seg_off l (i+1) _ (by rw [put_size];exact hn) (fun j e he o ho=>hk (j+1) e (by rw [show i+(j+1)=i+1+j by omega];exact he) o (by simpa using ho)) hv
  refine ⟨by rw [h1,put_size],by rw [h2,put_defs],fun t ht=>?_⟩
  rw [h3 t (fun hm=>ht (by
   obtain ⟨x,hx,hd⟩:=List.mem_filterMap.1 hm
   exact List.mem_filterMap.2 ⟨x,List.mem_cons_of_mem _ hx,hd⟩)),put_off (fun hd=>ht (List.mem_filterMap.2 ⟨o,List.mem_cons_self,hd⟩))]
/-- What an operation yields in the last frame G. -/
def SegFit (P:Program) (ops:Array Oper) (C:Bool→World→Prop) (T:World→World→Prop) (c:Nat) (ks:List Told) (x:Nat→Value) (G:Act) (i:Nat) (o:Oper):Prop:=
 match toldAt ks i with
  | none=>∀ b F,FamC (C b) F→Facts ops ks o x F→(Region.wanted o (yielded ops G.tmps)=true∧∃ v,(∀ t,o.dst=some t→G.tmps[t]?=some v)∧∀ d,o.quietAt P G (fun W=>∃ d,W=F d) (F d) v)∨(Region.wanted o (yielded ops G.tmps)=false∧∀ t,o.dst=some t→G.tmps[t]?=some undef)
  | some e=>Region.wanted o (yielded ops G.tmps)=true∧(i≠c→∀ b F,FamC (C b) F→Facts ops ks o x F→∀ d,yieldsR P o G (F d) e.φ)∧(i=c→∀ W,C false W→Facts ops ks o x (fun _=>W)→leavesR P o G W (fun v W'=>e.φ v W'∧C true W'∧T W W'))
theorem seg_fit {C:Bool→World→Prop} {T:World→World→Prop} {c:Nat} {ks:List Told} {x:Nat→Value} {G:Act} (n:Nat):∀ (l:List Oper) (i:Nat) (a:Act),a.tmps.size=n→(∀ o,o∈l→∀ cs b,o.op≠.select cs b)→lexOk ops n l=true→
  (∀ j e,toldAt ks (i+j)=some e→∀ o,l[j]?=some o→dstOf n o e.t)→segWalk P ops C T c ks x G i l a→∀ j o,l[j]?=some o→SegFit P ops C T c ks x G (i+j) o
 | [],_,_,_,_,_,_,_,j,o,ho=>by simp at ho
 | o :: l,i,a,hn,hs,hl,hk,h,j,p,hp=>by
  have off:=seg_off (o :: l) i a hn hk h
  rw [lexOk,Bool.and_eq_true,Bool.and_eq_true] at hl
  obtain ⟨⟨hd,hlook⟩,hl⟩:=hl
  have look:∀ t,t∈o.looksAt ops→G.tmps[t]?=a.tmps[t]?:=fun t ht=>off.2.2 t (fun hm=>by
   have:=List.all_eq_true.1 hlook t hm
   simp at this
   exact this ht)
  have he:=exec_same (ops:=ops) (hs o List.mem_cons_self) look
  have hw:=wanted_same look
  have hk':∀ j e,toldAt ks (i+1+j)=some e→∀ o,l[j]?=some o→dstOf n o e.t:=fun j e he o ho=>hk (j+1) e (by rw [show i+(j+1)=i+1+j by omega];exact he) o (by simpa using ho)
  have next:∀ v,segWalk P ops C T c ks x G (i+1) l (a.put o.dst v)→∀ j p,(o :: l)[j+1]?=some p→SegFit P ops C T c ks x G (i+(j+1)) p:=fun v hv j p hp=>by
   have:=seg_fit n l (i+1) (a.put o.dst v) (by rw [put_size];exact hn) (fun o ho=>hs o (List.mem_cons_of_mem _ ho)) hl hk' hv j p (by simpa using hp)
   rw [show i+(j+1)=i+1+j by omega]
   exact this
  have later:∀ v,segWalk P ops C T c ks x G (i+1) l (a.put o.dst v)→∀ t,o.dst=some t→G.tmps[t]?=some v:=by
   intro v hv t ht
   rw [ht] at hd hv
   simp at hd
   rw [(seg_off l (i+1) _ (by rw [put_size];exact hn) hk' hv).2.2 t hd.2,put_on (by rw [hn];exact hd.1)]
  rw [segWalk] at h
  cases hc:toldAt ks i with
  | none=>
   rw [hc] at h
   obtain ⟨v,h1,h2⟩:=h
   cases j with
   | succ j=>exact next v h2 j p hp
   | zero=>
    simp only [List.getElem?_cons_zero,Option.some.injEq] at hp
    subst hp
    unfold SegFit
    rw [Nat.add_zero,hc]
    intro b F hF hf
    have h3:=h1 b F hF hf
    by_cases c:Region.wanted o (yielded ops a.tmps)=true
    ·rw [if_pos c] at h3
     obtain ⟨u,hu,hK⟩:=h3 (fun a'=>a'=a.put o.dst v) rfl
     left
     refine ⟨hw.trans c,u,?_,fun d=>?_⟩
     ·intro t ht
      rw [later v h2 t ht]
      rw [ht] at hK hd
      simp at hd
      have e1:(a.put (some t) u).tmps[t]?=(a.put (some t) v).tmps[t]?:=congrArg (fun a=>a.tmps[t]?) hK
      rw [put_on (by rw [hn];exact hd.1),put_on (by rw [hn];exact hd.1)] at e1
      exact e1.symm
     ·have:=hu _ ⟨d,rfl⟩
      unfold Oper.quietAt at *
      rw [he]
      exact this
    ·rw [if_neg c] at h3
     right
     refine ⟨hw.trans (by simpa using c),fun t ht=>?_⟩
     rw [later v h2 t ht,h3]
  | some e=>
   rw [hc] at h
   have hde:=hk 0 e hc o rfl
   cases j with
   | succ j=>exact next (x e.k) (by rw [← hde.put hn];exact h.2) j p hp
   | zero=>
    simp only [List.getElem?_cons_zero,Option.some.injEq] at hp
    subst hp
    unfold SegFit
    rw [Nat.add_zero,hc]
    obtain ⟨g1,g2,g3⟩:=h.1
    refine ⟨hw.trans g1,fun hne b F hF hf d=>?_,fun heq W hW hf=>?_⟩
    ·have:=g2 hne b F hF hf d
     unfold yieldsR at *
     rw [he]
     exact this
    ·have:=g3 heq W hW hf
     unfold leavesR at *
     rw [he]
     exact this
/-- The shape of the segment from k to m: what stands from m on waits for all of it. -/
def segB (ops:Array Oper) (k m:Nat):Bool:=
 decide (m≤ops.size) && Region.noSelect ops &&
 ((List.range ops.size).all fun i=>match ops[i]? with
  | none=>false
  | some o=>(o.after.all fun e=>!Region.binds .any e || decide (e.on < i)) && (decide (i≤m) || (List.range i).any fun j=>decide (m≤j) && waits o j)) &&
 (decide (ops.size≤m) || (List.range m).all fun j=>decide (j < k) || (List.range (m+1)).any fun n=>decide (j < n) && match ops[n]? with
  | none=>false
  | some o=>waits o j) &&
 ((List.range m).all fun i=>decide (i < k) || match ops[i]? with
  | none=>false
  | some o=>(List.range m).all fun j=>decide (j < k) || match (ops[j]?).bind (·.dst) with
   | none=>true
   | some t=>(!(o.looksAt ops).contains t || waits o j) && (i==j || o.dst != some t))
/-- Each told operation is in the segment and writes the slot that it names; no two of them write one slot. -/
def toldS (ops:Array Oper) (ks:List Told) (k m n:Nat):Bool:=
 (ks.all fun e=>decide (k≤e.k) && decide (e.k < m) && (decide (e.t < n) && (((ops[e.k]?).bind (·.dst))==some e.t) || decide (n≤e.t) && (((ops[e.k]?).bind (·.dst))==none) && ops.toList.all fun o=>!(o.looksAt ops).contains e.t)) && decide (ks.map (·.t)).Nodup && decide (ks.map (·.k)).Nodup
structure InvS (ops:Array Oper) (C:Bool→World→Prop) (c:Nat) (ks:List Told) (k m:Nat) (G:Act) (listed:Array Bool) (s:Act) (W:World) (x:Nat→Value):Prop where
 size:listed.size=ops.size
 done:∀ j,j < k→listed.getD j false=true
 head:∀ j,m≤j→j < ops.size→listed.getD j true=false
 fsize:s.tmps.size=G.tmps.size
 fdef:s.defers=G.defers
 slot:∀ t,(∀ j o,k≤j→j < m→ops[j]?=some o→o.dst=some t→listed.getD j false=true)→s.tmps[t]?=G.tmps[t]?
 cls:C (listed.getD c false) W
 told:∀ e,e∈ks→listed.getD e.k false=true→e.φ (x e.k) W
 closed:∀ j o,ops[j]?=some o→listed.getD j false=true→∀ e∈o.after,Region.binds .any e=true→listed.getD e.on false=true
theorem InvS.all {C:Bool→World→Prop} {c:Nat} {W:World} {ks:List Told} {k m:Nat} {G s:Act} {listed:Array Bool} {x:Nat→Value} (hI:InvS ops C c ks k m G listed s W x) (h:∀ j,j < m→listed.getD j false=true):s=G:=by
 have h1:s.tmps=G.tmps:=Array.ext_getElem? fun t=>hI.slot t fun j _ _ hj _ _=>h j hj
 have h2:=hI.fdef
 cases s
 cases G
 simp only at h1 h2
 rw [h1,h2]
theorem seg_any {C:Bool→World→Prop} {T:World→World→Prop} {c:Nat} {ks:List Told} {k m n:Nat} {G:(Nat→Value)→Act} {G0:Act} (hB:segB ops k m=true) (hK:toldS ops ks k m n=true) (hkm:k≤m)
  (hC:∀ b W W',C b W→Below W.heap.size W W'→C b W')
  (hcc:(∃ e,e∈ks∧e.k=c)∨m≤c)
  (hφ:∀ e,e∈ks→∀ v W W',e.φ v W→Below W.heap.size W W'→e.φ v W')
  (hT:∀ e,e∈ks→e.k≠c→∀ v W W',e.φ v W→C false W→T W W'→e.φ v W')
  (hG:∀ x,G x=putsK ks x G0) (hn:G0.tmps.size=n)
  (hfit:∀ x i o,k≤i→i < m→ops[i]?=some o→SegFit P ops C T c ks x (G x) i o)
  (ht:∀ W x,C (decide (c < m)) W→(∀ e,e∈ks→e.φ (x e.k) W)→wpFrom P ops Q m (G x) W):
  ∀ (fuel:Nat) (listed:Array Bool) (s:Act) (W:World) (x:Nat→Value),listed.toList.count false=fuel→InvS ops C c ks k m (G x) listed s W x→wpAny P .any ops Q fuel listed s W:=by
 simp only [segB,Bool.and_eq_true,decide_eq_true_eq] at hB
 obtain ⟨⟨⟨⟨hm,hsel⟩,hback⟩,hsink⟩,hX⟩:=hB
 simp only [toldS,Bool.and_eq_true,decide_eq_true_eq] at hK
 obtain ⟨⟨hK,hKt⟩,hKk⟩:=hK
 have hK':∀ e,e∈ks→(k≤e.k∧e.k < m)∧((e.t < n∧(ops[e.k]?).bind (·.dst)=some e.t)∨((n≤e.t∧(ops[e.k]?).bind (·.dst)=none)∧∀ o,o∈ops→(o.looksAt ops).contains e.t=false)):=by
  intro e he
  have:=List.all_eq_true.1 hK e he
  simp only [Bool.and_eq_true,Bool.or_eq_true,decide_eq_true_eq,beq_iff_eq] at this
  refine ⟨this.1,this.2.imp id fun h=>⟨h.1,fun o ho=>?_⟩⟩
  have:=List.all_eq_true.1 h.2 o (Array.mem_toList_iff.2 ho)
  simpa using this
 have hb:∀ i o,ops[i]?=some o→∀ e∈o.after,Region.binds .any e=true→e.on < i:=by
  intro i o ho e he hbi
  have:=List.all_eq_true.1 hback i (List.mem_range.2 (Array.getElem?_eq_some_iff.1 ho).1)
  simp only [ho,Bool.and_eq_true] at this
  have h1:=Array.all_eq_true_iff_forall_mem.1 this.1 e he
  simpa [hbi] using h1
 have hT':∀ i o,ops[i]?=some o→m < i→∃ j,m≤j∧j < i∧waits o j=true:=by
  intro i o ho hj
  have:=List.all_eq_true.1 hback i (List.mem_range.2 (Array.getElem?_eq_some_iff.1 ho).1)
  simp only [ho,Bool.and_eq_true] at this
  have:=this.2
  simp only [Bool.or_eq_true,decide_eq_true_eq] at this
  rcases this with h|h
  ·omega
  ·obtain ⟨j,hj1,hj2⟩:=List.any_eq_true.1 h
   simp only [Bool.and_eq_true,decide_eq_true_eq] at hj2
   exact ⟨j,hj2.1,List.mem_range.1 hj1,hj2.2⟩
 have hS:m < ops.size→∀ j,k≤j→j < m→∃ n o,j < n∧n≤m∧ops[n]?=some o∧waits o j=true:=by
  intro hlt j hkj hj
  rw [Bool.or_eq_true] at hsink
  rcases hsink with h|h
  ·simp at h;omega
  ·have h0:=List.all_eq_true.1 h j (List.mem_range.2 hj)
   rw [Bool.or_eq_true] at h0
   rcases h0 with h0|h0
   ·simp at h0;omega
   ·obtain ⟨n,hk,h1⟩:=List.any_eq_true.1 h0
    simp only [Bool.and_eq_true,decide_eq_true_eq] at h1
    have hk':n < ops.size:=by have:=List.mem_range.1 hk;omega
    have ho:ops[n]?=some ops[n]:=Array.getElem?_eq_getElem hk'
    rw [ho] at h1
    exact ⟨n,_,h1.1,by have:=List.mem_range.1 hk;omega,ho,h1.2⟩
 have hX':∀ i o,k≤i→i < m→ops[i]?=some o→∀ j t,k≤j→j < m→(ops[j]?).bind (·.dst)=some t→(t∈o.looksAt ops→waits o j=true)∧(i≠j→o.dst≠some t):=by
  intro i o hki hi ho j t hkj hj hd
  have h0:=List.all_eq_true.1 hX i (List.mem_range.2 hi)
  rw [Bool.or_eq_true] at h0
  have h0:_:=h0.resolve_left (by simp;omega)
  simp only [ho] at h0
  have h1:=List.all_eq_true.1 h0 j (List.mem_range.2 hj)
  rw [Bool.or_eq_true] at h1
  have this:=h1.resolve_left (by simp;omega)
  simp only [hd,Bool.and_eq_true,Bool.or_eq_true,bne_iff_ne,beq_iff_eq,Bool.not_eq_true',List.contains_eq_mem,decide_eq_false_iff_not] at this
  refine ⟨fun hl=>?_,fun hne=>?_⟩
  ·rcases this.1 with h|h
   ·exact absurd hl h
   ·exact h
  ·rcases this.2 with h|h
   ·exact absurd h hne
   ·exact h
 have gsize:∀ x,(G x).tmps.size=n:=fun x=>by rw [hG,putsK_size];exact hn
 have gat:∀ x e,e∈ks→e.t < n→(G x).tmps[e.t]?=some (x e.k):=fun x e he hlt=>by
  rw [hG]
  exact putsK_at x ks G0 hKt e he (by rw [hn];exact hlt)
 have finish:∀ (listed:Array Bool) (s:Act) (W:World) (x:Nat→Value),InvS ops C c ks k m (G x) listed s W x→(∀ j,j < m→listed.getD j false=true)→wpAny P .any ops Q (listed.toList.count false) listed s W:=by
  intro listed s W x hI hall
  have hs:=hI.all hall
  have hl:=upTo_eq hI.size hm hall hI.head
  have hcl:listed.getD c false=decide (c < m):=by
   rw [hl]
   rcases Nat.lt_or_ge c m with h|h
   ·rw [upTo_lt h];simp [h]
   ·have:decide (c < m)=false:=by simp;omega
    rw [this]
    rcases Nat.lt_or_ge c ops.size with h'|h'
    ·exact upTo_ge h h' _
    ·exact upTo_out hm h' _
  have h:=ht W x (by rw [← hcl];exact hI.cls) (fun e he=>hI.told e he (hall _ (hK' e he).1.2))
  unfold wpFrom at h
  rw [hl,upTo_count hm,hs]
  exact h
 intro fuel
 induction fuel with
 | zero=>
  intro listed s W x hc hI
  have hall:∀ j,j < m→listed.getD j false=true:=fun j hj=>listed_of (by rw [hI.size];omega) (count_none hc j)
  have:=finish listed s W x hI hall
  rw [hc] at this
  exact this
 | succ fuel ih=>
  intro listed s W x hc hI
  refine ⟨fun hr=>by
   obtain ⟨i,hi⟩:=count_some hc
   exact absurd hr (first_ready hI.size hb i hi),fun i hi=>?_⟩
  obtain ⟨hun,o,ho,hall⟩:=mem_ready.1 hi
  have hilt:i < ops.size:=(Array.getElem?_eq_some_iff.1 ho).1
  have hki:k≤i:=by
   rcases Nat.lt_or_ge i k with h|h
   ·have h1:=hI.done i h
    have h2:=(unlisted hun).2
    rw [h1] at h2;cases h2
   ·exact h
  rcases Nat.lt_or_ge i m with him|him
  ·have look:∀ t,t∈o.looksAt ops→s.tmps[t]?=(G x).tmps[t]?:=fun t htl=>
    hI.slot t fun j oj hkj hj hoj hd=>waits_listed ((hX' i o hki him ho j t hkj hj (by rw [hoj];exact hd)).1 htl) hall
   have he:=exec_same (ops:=ops) (Region.noSelect_spec hsel i o · · ho) look
   have hwt:=wanted_same look
   have told_at:∀ e,e∈ks→(o.looksAt ops).contains e.t=true→listed.getD e.k false=true:=fun e hek htl=>by
    obtain ⟨h1,⟨_,h3⟩|h3⟩:=hK' e hek
    ·exact waits_listed ((hX' i o hki him ho e.k e.t h1.1 h1.2 h3).1 (by simpa using htl)) hall
    ·have:=h3.2 o (Array.mem_of_getElem? ho)
     rw [htl] at this
     cases this
   have facts:Facts ops ks o x (onTop W):=fun e hek htl d=>hφ e hek _ _ _ (hI.told e hek (told_at e hek htl)) (onTop_below W d)
   have fit:=hfit x i o hki him ho
   unfold SegFit at fit
   have fam:=famC_top (hC (listed.getD c false)) hI.cls
   obtain ⟨d0,hd0⟩:=of_below (Below.refl W.heap.size W)
   have other:∀ e,e∈ks→e.k≠i→(listed.setIfInBounds i true).getD e.k false=true→listed.getD e.k false=true:=fun e _ hne h=>by
    rw [getD_set_ne false (Ne.symm hne)] at h;exact h
   have done':∀ j,j < k→(listed.setIfInBounds i true).getD j false=true:=fun j hj=>by rw [getD_set_ne false (by omega)];exact hI.done j hj
   unfold wpOp
   simp only [ho]
   cases hc1:toldAt ks i with
   | none=>
    rw [hc1] at fit
    have fit:=fit _ _ fam facts
    have hnk:=toldAt_none hc1
    have hic:i≠c:=by
     rcases hcc with ⟨e,he1,he2⟩|h
     ·rw [← he2];exact fun h=>hnk e he1 h.symm
     ·omega
    have next:∀ (v:Value) (W':World),(∀ t,o.dst=some t→(G x).tmps[t]?=some v)→Below W.heap.size W W'→wpAny P .any ops Q fuel (listed.setIfInBounds i true) (s.put o.dst v) W':=by
     intro v W' hv hbW
     refine ih _ _ W' x (count_listed hun hc) ⟨by simpa using hI.size,done',fun j hj hj'=>by rw [getD_set_ne true (by omega)];exact hI.head j hj hj',by rw [put_size];exact hI.fsize,by rw [put_defs];exact hI.fdef,fun t hcond=>?_,by rw [getD_set_ne false hic];exact hC _ _ _ hI.cls hbW,fun e hek hl=>hφ e hek _ _ _ (hI.told e hek (other e hek (hnk e hek) hl)) hbW,closed_set ho hall hI.closed⟩
     by_cases hd:o.dst=some t
     ·rw [hv t hd,hd]
      exact put_on (by rw [hI.fsize];exact (Array.getElem?_eq_some_iff.1 (hv t hd)).1)
     ·rw [put_off hd]
      refine hI.slot t fun j oj hkj hj hoj hdj=>?_
      have:=hcond j oj hkj hj hoj hdj
      by_cases c:i=j
      ·subst c
       rw [ho] at hoj
       cases hoj
       exact absurd hdj hd
      ·rw [getD_set_ne false c] at this
       exact this
    rcases fit with ⟨hw,v,hv,hq⟩|⟨hw,hu⟩
    ·rw [if_pos (hwt.trans hw)]
     left
     have hq:=hq d0
     rw [← hd0] at hq
     unfold Oper.wp
     unfold Oper.quietAt at hq
     rw [he]
     generalize (execOp (G x).eval o).run P W=r at hq
     cases r with
     | halt x w'=>exact hq.elim
     | ok n w'=>
      cases n <;> simp only [Oper.quietUpon] at hq <;> simp only [Oper.upon]
      case value u=>
       obtain ⟨e1,e2⟩:=hq
       rw [e1,e2]
       exact next v W hv (Below.refl _ _)
      case skip=>
       obtain ⟨e1,e2⟩:=hq
       rw [e1,← e2]
       exact next v W hv (Below.refl _ _)
      case enter f args=>
       obtain ⟨e1,hc⟩:=hq
       rw [e1]
       exact hc.mono fun e w'' ⟨he,d,hw''⟩=>by subst he;rw [hw''];exact next v _ hv (onTop_below W d)
    ·rw [if_neg (by rw [hwt,hw];exact Bool.false_ne_true)]
     exact next undef W hu (Below.refl _ _)
   | some e=>
    rw [hc1] at fit
    obtain ⟨hek,hei⟩:=toldAt_some hc1
    subst hei
    have hod:(e.t < n∧o.dst=some e.t)∨(n≤e.t∧o.dst=none):=by
     have:=(hK' e hek).2
     rw [ho] at this
     exact this.imp id fun h=>h.1
    have uniq:∀ e',e'∈ks→e'.k=e.k→e'=e:=fun e' he' hk=>by
     have h1:=toldAt_mem ks hKk e' he'
     rw [hk,hc1] at h1
     exact (Option.some.inj h1).symm
    have next:∀ (v:Value) (W':World),e.φ v W'→C ((listed.setIfInBounds e.k true).getD c false) W'→(∀ e',e'∈ks→e'.k≠e.k→∀ u,listed.getD e'.k false=true→e'.φ u W→e'.φ u W')→wpAny P .any ops Q fuel (listed.setIfInBounds e.k true) (s.put o.dst v) W':=by
     intro v W' hv hcls hkeep
     refine ih _ _ W' (upd x e.k v) (count_listed hun hc) ⟨by simpa using hI.size,done',fun j hj hj'=>by rw [getD_set_ne true (by omega)];exact hI.head j hj hj',by rw [put_size,hI.fsize,gsize,gsize],by rw [put_defs,hI.fdef,hG,hG,putsK_defs,putsK_defs],fun t hcond=>?_,hcls,fun e' hek' hl=>?_,closed_set ho hall hI.closed⟩
     ·by_cases hd:o.dst=some t
      ·rw [hd]
       rcases hod with ⟨hlt,hod⟩|⟨_,hod⟩
       case inr=>rw [hod] at hd;cases hd
       obtain rfl:e.t=t:=by rw [hod] at hd;exact Option.some.inj hd
       rw [gat _ e hek hlt,put_on (by rw [hI.fsize,gsize];exact hlt)]
       show some v=some (if e.k=e.k then v else x e.k)
       rw [if_pos rfl]
      ·by_cases hnt:n≤t
       ·rw [put_off hd,Array.getElem?_eq_none (by rw [hI.fsize,gsize];exact hnt),Array.getElem?_eq_none (by rw [gsize];exact hnt)]
       rw [put_off hd,hG,putsK_upd x e.k v t ks G0 G0 rfl rfl (fun e' he' hk' hh=>by
        have hh2:e.t=t:=by rw [← uniq e' he' hk'];exact hh
        rcases hod with ⟨_,hod⟩|⟨hge,_⟩
        ·exact hd (by rw [hod,hh2])
        ·exact hnt (hh2 ▸ hge)),← hG]
       refine hI.slot t fun j oj hkj hj hoj hdj=>?_
       have:=hcond j oj hkj hj hoj hdj
       by_cases c:e.k=j
       ·subst c
        rw [ho] at hoj
        cases hoj
        exact absurd hdj hd
       ·rw [getD_set_ne false c] at this
        exact this
     ·by_cases c:e'.k=e.k
      ·obtain rfl:=uniq e' hek' c
       show e'.φ (if e'.k=e'.k then v else x e'.k) W'
       rw [if_pos rfl]
       exact hv
      ·show e'.φ (if e'.k=e.k then v else x e'.k) W'
       rw [if_neg c]
       have hl':=other e' hek' c hl
       exact hkeep e' hek' c _ hl' (hI.told e' hek' hl')
    obtain ⟨hw,hy,hz⟩:=fit
    rw [if_pos (hwt.trans hw)]
    left
    by_cases hec:e.k=c
    ·have hcl:listed.getD c false=false:=by rw [← hec];exact (unlisted hun).2
     have hcs:=hI.cls
     rw [hcl] at hcs
     have hy:=hz hec W hcs (fun e' hek' htl _=>hI.told e' hek' (told_at e' hek' htl))
     have hc2:(listed.setIfInBounds e.k true).getD c false=true:=by
      rw [hec] at hun ⊢
      have:=(unlisted hun).1
      simp [this]
     have next':∀ (v:Value) (W':World),(e.φ v W'∧C true W'∧T W W')→wpAny P .any ops Q fuel (listed.setIfInBounds e.k true) (s.put o.dst v) W':=fun v W' ⟨h1,h2,h3⟩=>
      next v W' h1 (by rw [hc2];exact h2) (fun e' he' hne u _ hu=>hT e' he' (by rw [← hec];exact hne) u W W' hu hcs h3)
     unfold Oper.wp
     unfold leavesR at hy
     rw [he]
     generalize (execOp (G x).eval o).run P W=r at hy
     cases r with
     | halt x w'=>exact hy.elim
     | ok n w'=>
      cases n <;> simp only [leavesUpon] at hy <;> simp only [Oper.upon]
      case value u=>exact next' u w' hy
      case skip=>exact next' undef w' hy
      case enter f args=>
       obtain ⟨e1,hc⟩:=hy
       rw [e1]
       exact hc.mono fun e' w'' ⟨v,he',h1⟩=>by subst he';exact next' v w'' h1
    ·have hy:=hy hec _ _ fam facts d0
     rw [← hd0] at hy
     have next':∀ (v:Value) (W':World),e.φ v W'→Below W.heap.size W W'→wpAny P .any ops Q fuel (listed.setIfInBounds e.k true) (s.put o.dst v) W':=fun v W' h1 h2=>
      next v W' h1 (by rw [getD_set_ne false hec];exact hC _ _ _ hI.cls h2) (fun e' he' _ u _ hu=>hφ e' he' u W W' hu h2)
     unfold Oper.wp
     unfold yieldsR at hy
     rw [he]
     generalize (execOp (G x).eval o).run P W=r at hy
     cases r with
     | halt x w'=>exact hy.elim
     | ok n w'=>
      cases n <;> simp only [yieldsUpon] at hy <;> simp only [Oper.upon]
      case value u=>exact next' u w' hy.1 hy.2
      case skip=>exact next' undef w' hy.1 hy.2
      case enter f args=>
       obtain ⟨e1,hc⟩:=hy
       rw [e1]
       exact hc.mono fun e' w'' ⟨v,he',h1,h2⟩=>by subst he';exact next' v w'' h1 h2
  ·obtain rfl:i=m:=by
    rcases Nat.lt_or_ge m i with c|c
    ·obtain ⟨j,h0,h1,h2⟩:=hT' i o ho c
     have h3:=waits_listed h2 hall
     have h4:=(unlisted (hI.head j h0 (by omega))).2
     rw [h3] at h4;cases h4
    ·omega
   have hl:∀ d j,i - j=d→k≤j→j < i→listed.getD j false=true:=by
    intro d
    induction d using Nat.strongRecOn with
    | _ d ihd=>
     intro j hd hkj hj
     obtain ⟨n,on,hjn,hn,hon,hwn⟩:=hS hilt j hkj hj
     rcases Nat.lt_or_ge n i with c|c
     ·have:=ihd (i - n) (by omega) n rfl (by omega) c
      exact waits_listed hwn (hI.closed n on hon this)
     ·obtain rfl:n=i:=by omega
      rw [ho] at hon
      cases hon
      exact waits_listed hwn hall
   have hl':∀ j,j < i→listed.getD j false=true:=fun j hj=>by
    rcases Nat.lt_or_ge j k with c|c
    ·exact hI.done j c
    ·exact hl (i - j) j rfl c hj
   have h:=finish listed s W x hI hl'
   rw [hc] at h
   exact h.2 i hi
/-- THE LAW of one segment, from k to m. -/
theorem seg {a:Act} {w:World} {l:List Oper} (C:Bool→World→Prop) (T:World→World→Prop) (c:Nat) (ks:List Told) (k m n:Nat) (hn:a.tmps.size=n) (hl:l=(ops.toList.drop k).take (m - k)) (hB:(decide (k≤m) && segB ops k m && lexOk ops n l)=true) (hK:toldS ops ks k m n=true)
  (hC:∀ b W W',C b W→Below W.heap.size W W'→C b W') (hw:C false w)
  (hcc:(∃ e,e∈ks∧e.k=c)∨m≤c)
  (hφ:∀ e,e∈ks→∀ v W W',e.φ v W→Below W.heap.size W W'→e.φ v W')
  (hT:∀ e,e∈ks→e.k≠c→∀ v W W',e.φ v W→C false W→T W W'→e.φ v W')
  (h:∃ G:(Nat→Value)→Act,(∀ x,segWalk P ops C T c ks x (G x) k l a)∧(∀ x,G x=putsK ks x (G fun _=>undef))∧
   ∀ W x,C (decide (c < m)) W→(∀ e,e∈ks→e.φ (x e.k) W)→wpFrom P ops Q m (G x) W):wpFrom P ops Q k a w:=by
 obtain ⟨G,h1,h2,h3⟩:=h
 simp only [Bool.and_eq_true,decide_eq_true_eq] at hB
 obtain ⟨⟨hkm,hB1⟩,hlex⟩:=hB
 have hB':=hB1
 simp only [segB,Bool.and_eq_true,decide_eq_true_eq] at hB'
 have hms:=hB'.1.1.1.1
 have hK2:=hK
 simp only [toldS,Bool.and_eq_true,decide_eq_true_eq] at hK2
 have hKe:∀ e,e∈ks→k≤e.k∧e.k < m:=fun e hek=>by
  have:=List.all_eq_true.1 hK2.1.1 e hek
  simp only [Bool.and_eq_true,Bool.or_eq_true,decide_eq_true_eq,beq_iff_eq] at this
  exact this.1
 have at_:∀ j,k+j < m→l[j]?=ops[k+j]?:=by
  intro j hj
  rw [hl,List.getElem?_take_of_lt (by omega),List.getElem?_drop]
  simp
 have hk:∀ j e,toldAt ks (k+j)=some e→∀ o,l[j]?=some o→dstOf n o e.t:=by
  intro j e he o ho
  obtain ⟨hek,hej⟩:=toldAt_some he
  have:=List.all_eq_true.1 hK2.1.1 e hek
  simp only [Bool.and_eq_true,Bool.or_eq_true,decide_eq_true_eq,beq_iff_eq] at this
  rw [at_ j (by rw [← hej];exact this.1.2)] at ho
  have h4:=this.2
  rw [hej,ho] at h4
  exact h4.imp (fun h=>h.2) fun h=>⟨h.1.2,h.1.1⟩
 have hsel:∀ o,o∈l→∀ cs b,o.op≠.select cs b:=by
  intro o ho cs b
  rw [hl] at ho
  obtain ⟨j,hj,e⟩:=List.getElem_of_mem (List.mem_of_mem_drop (List.mem_of_mem_take ho))
  exact Region.noSelect_spec hB'.1.1.1.2 j o cs b (by rw [← e];simp at hj ⊢)
 have hsz:∀ x,(G x).tmps.size=n:=fun x=>by rw [(seg_off l k a hn hk (h1 x)).1,hn]
 have off:=seg_off l k a hn hk (h1 fun _=>undef)
 unfold wpFrom
 refine seg_any (C:=C) (T:=T) (c:=c) (ks:=ks) (k:=k) (m:=m) (n:=n) (G:=G) (G0:=G fun _=>undef) hB1 hK hkm hC hcc hφ hT h2 (hsz _) (fun x i o hki hi ho=>?_) h3 _ _ _ _ (fun _=>undef) ?_ ⟨upTo_size (Nat.le_trans hkm hms),fun j hj=>upTo_lt hj _,fun j hj hj'=>upTo_ge (Nat.le_trans hkm hj) hj' _,off.1.symm,off.2.1.symm,fun t hc=>?_,?_,fun e he hl=>?_,fun j o ho hl e he hbi=>?_⟩
 ·have:=seg_fit n l k a hn hsel hlex hk (h1 x) (i - k) o (by rw [at_ (i - k) (by omega),show k+(i - k)=i by omega];exact ho)
  rw [show k+(i - k)=i by omega] at this
  exact this
 ·exact upTo_count (Nat.le_trans hkm hms)
 ·refine (off.2.2 t fun hm'=>?_).symm
  obtain ⟨o,ho,hd⟩:=List.mem_filterMap.1 hm'
  obtain ⟨j,hj,e⟩:=List.getElem_of_mem ho
  have hjl:j < m - k:=by rw [hl] at hj;simp at hj;omega
  have ho':ops[k+j]?=some o:=by rw [← at_ j (by omega),List.getElem?_eq_getElem hj,e]
  have hlt:k+j < ops.size:=(Array.getElem?_eq_some_iff.1 ho').1
  have:=hc (k+j) o (by omega) (by omega) ho' hd
  rw [upTo_ge (by omega) hlt] at this
  cases this
 ·have:(upTo ops.size k).getD c false=false:=by
   have hkc:k≤c:=by
    rcases hcc with ⟨e,he1,he2⟩|h
    ·rw [← he2];exact (hKe e he1).1
    ·omega
   rcases Nat.lt_or_ge c ops.size with h|h
   ·exact upTo_ge hkc h _
   ·exact upTo_out (Nat.le_trans hkm hms) h _
  rw [this]
  exact hw
 ·obtain ⟨h4,h5⟩:=hKe e he
  rw [upTo_ge h4 (by omega)] at hl
  cases hl
 ·have hlt:j < ops.size:=(Array.getElem?_eq_some_iff.1 ho).1
  have hjk:j < k:=by
   rcases Nat.lt_or_ge j k with h|h
   ·exact h
   ·rw [upTo_ge h hlt] at hl;cases hl
  have h6:=List.all_eq_true.1 hB'.1.1.2 j (List.mem_range.2 hlt)
  simp only [ho,Bool.and_eq_true] at h6
  have h7:=Array.all_eq_true_iff_forall_mem.1 h6.1 e he
  have h8:e.on < j:=by simpa [hbi] using h7
  exact upTo_lt (by omega) _
theorem segQuiet {C:Bool→World→Prop} {T:World→World→Prop} {c:Nat} {ks:List Told} {x:Nat→Value} {G a:Act} {i:Nat} {o:Oper} {l:List Oper} (hk:toldAt ks i=none) (hw:Region.wanted o (yielded ops a.tmps)=true)
  (h:∃ v,(∀ b F,FamC (C b) F→Facts ops ks o x F→∀ K:Act→Prop,K (a.put o.dst v)→o.quiet P a (fun W=>∃ d,W=F d) K)∧segWalk P ops C T c ks x G (i+1) l (a.put o.dst v)):segWalk P ops C T c ks x G i (o :: l) a:=by
 rw [segWalk,hk]
 obtain ⟨v,h1,h2⟩:=h
 exact ⟨v,fun b F hF hf=>by rw [if_pos hw];exact h1 b F hF hf,h2⟩
theorem segTold {C:Bool→World→Prop} {T:World→World→Prop} {c:Nat} {ks:List Told} {x:Nat→Value} {G a:Act} {i:Nat} {o:Oper} {l:List Oper} {e:Told} (hk:toldAt ks i=some e) (hi:i≠c) (hw:Region.wanted o (yielded ops a.tmps)=true)
  (h1:∀ b F,FamC (C b) F→Facts ops ks o x F→∀ d,yieldsR P o a (F d) e.φ) (h2:segWalk P ops C T c ks x G (i+1) l (a.put (some e.t) (x e.k))):segWalk P ops C T c ks x G i (o :: l) a:=by
 rw [segWalk,hk]
 exact ⟨⟨hw,fun _=>h1,fun h=>absurd h hi⟩,h2⟩
theorem segBusy {C:Bool→World→Prop} {T:World→World→Prop} {c:Nat} {ks:List Told} {x:Nat→Value} {G a:Act} {i:Nat} {o:Oper} {l:List Oper} {e:Told} (hk:toldAt ks i=some e) (hi:i=c) (hw:Region.wanted o (yielded ops a.tmps)=true)
  (h1:∀ W,C false W→Facts ops ks o x (fun _=>W)→leavesR P o a W (fun v W'=>e.φ v W'∧C true W'∧T W W')) (h2:segWalk P ops C T c ks x G (i+1) l (a.put (some e.t) (x e.k))):segWalk P ops C T c ks x G i (o :: l) a:=by
 rw [segWalk,hk]
 exact ⟨⟨hw,fun h=>absurd hi h,fun _=>h1⟩,h2⟩
theorem segEnd {C:Bool→World→Prop} {T:World→World→Prop} {c:Nat} {ks:List Told} {x:Nat→Value} {G a:Act} {i:Nat} (h:a=G):segWalk P ops C T c ks x G i [] a:=h
end
end Go.Proofs.YtjlofobnmjompaaGreatDoor.Wd
namespace Go.Proofs.YtjlofobnmjompaaGreatDoor.Wd
open Go.RowKit Fx
def leafE (ns:List Nd) (d x:List Int):Int:=if 512≤ns.length then 2 else if isP d x then 0 else 1
def leafR (ns:List Nd) (d x:List Int):Int:=if ns.length < 512∧isP d x then (ns.length:Int) else 0
def leafN (ns:List Nd) (d x:List Int):List Nd:=if ns.length < 512∧isP d x then ns++[⟨1,-1,-1,0,d,x⟩] else ns
theorem OwnK.form_ {e:TypeId} {W:World} {B:Nat} {v:Value} {l:List Int} (h:OwnK .i64 e W B v l):∃ p n c,v = .slice p n c:=by
 obtain ⟨p,n,c,e,_⟩:=h.nums.lst
 exact ⟨p,n,c,e⟩
theorem OwnN_block {e:TypeId} {W:World} {B n:Nat} {v:Value} {xs:List Value} (h:W.ownsRow B e 6 v n xs):∀ j,v.ownBlock=some j→B≤j:=fun j hj=>(World.ownsRow.lt h j hj).1
theorem box3 {w W0:World} {a b c d e f:Value} (h:((w.alloc (.cells #[a,b] 64)).alloc (.cells #[c,d] 64)).alloc (.cells #[e,f] 64)=W0):Hid (Below w.heap.size w W0)∧Hid (Cel W0 w.heap.size a b)∧Hid (Cel W0 (w.heap.size+1) c d)∧Hid (Cel W0 (w.heap.size+2) e f):=⟨hidB (w:=w) h (by go_grown),celW h (by simp [go_sem]),celW h (by simp [go_sem]),celW h (by simp [go_sem])⟩
def ndN (ns:List Nd) (i:Int):Nd:=ns.getD i.toNat ⟨0,0,0,0,[],[]⟩
abbrev okD (ns:List Nd) (op a b:Int):Prop:=(2≤op∧op≤14)∧(0≤a∧a < (ns.length:Int))∧(twoP op→0≤b∧b < (ns.length:Int))
def dB (op b:Int):Int:=if twoP op then b else -1
def dK (op k:Int):Int:=if byP op then k else 0
def dD (ns:List Nd) (op b:Int):List Int:=if twoP op then (ndN ns b).D else []
def dX (ns:List Nd) (op b:Int):List Int:=if twoP op then (ndN ns b).X else []
def dE (ns:List Nd) (op a b k:Int):Int:=rkE op (ndN ns a).D (ndN ns a).X (dD ns op b) (dX ns op b) (dK op k)
def dN (ns:List Nd) (op a b k:Int):Nd:=⟨op,a,dB op b,dK op k,rkD op (ndN ns a).D (ndN ns a).X (dD ns op b) (dX ns op b) (dK op k),rkV op (ndN ns a).D (ndN ns a).X (dD ns op b) (dX ns op b) (dK op k)⟩
def doE (ns:List Nd) (op a b k:Int):Int:=if 512≤ns.length then 2 else if okD ns op a b then dE ns op a b k else 1
abbrev doP (ns:List Nd) (op a b k:Int):Prop:=(ns.length < 512∧okD ns op a b)∧dE ns op a b k=0
def doR (ns:List Nd) (op a b k:Int):Int:=if doP ns op a b k then (ns.length:Int) else 0
def doN (ns:List Nd) (op a b k:Int):List Nd:=if doP ns op a b k then ns++[dN ns op a b k] else ns
def NodesG (ns:List Nd):Prop:=∀ nd,nd∈ns→TnsG nd.D nd.X
theorem box6 {W:World} {b:Nat} {v0 v1 v2 v3 v4 v5:Value} {e:TypeId} (h:W.heap[b]?=some (.cells #[v0,v1,v2,v3,v4,v5] e (0,0))):
  (W.cell? ⟨b,0,none⟩=some v0∧W.cell? ⟨b,1,none⟩=some v1∧W.cell? ⟨b,2,none⟩=some v2∧W.cell? ⟨b,3,none⟩=some v3∧W.cell? ⟨b,4,none⟩=some v4∧W.cell? ⟨b,5,none⟩=some v5)∧∀ j,W.frozen? ⟨b,j,none⟩=false:=by
 have c:∀ j v,#[v0,v1,v2,v3,v4,v5][j]?=some v→W.cell? ⟨b,j,none⟩=some v:=fun j v hj=>by
  unfold World.cell?
  simp only [h]
  exact hj
 refine ⟨⟨c 0 _ rfl,c 1 _ rfl,c 2 _ rfl,c 3 _ rfl,c 4 _ rfl,c 5 _ rfl⟩,fun j=>?_⟩
 unfold World.frozen?
 simp [h]
theorem nd_at {ns:List Nd} {i:Nat} {nd:Nd} (h:ns[i]?=some nd):ndN ns (i:Int)=nd:=by
 unfold ndN
 rw [show ((i:Int)).toNat=i from rfl,List.getD_eq_getElem?_getD,h]
 rfl
theorem nd_mem {ns:List Nd} {i:Nat} {nd:Nd} (h:ns[i]?=some nd):nd∈ns:=List.mem_of_getElem? h
theorem NodesG.nil:NodesG []:=fun nd h=>by simp at h
theorem NodesG.push {ns:List Nd} {nd:Nd} (h:NodesG ns) (hn:TnsG nd.D nd.X):NodesG (ns++[nd]):=fun x hx=>by
 rcases List.mem_append.1 hx with hx|hx
 ·exact h x hx
 ·simp at hx
  subst hx
  exact hn
theorem NodesG.leaf {ns:List Nd} {d x:List Int} (h:NodesG ns) (hx:RI x):NodesG (leafN ns d x):=by
 unfold leafN
 split
 ·rename_i hp
  exact h.push (tnsg hp.2 hx)
 ·exact h
theorem NodesG.at {ns:List Nd} {i:Int} (h:NodesG ns) (h0:0≤i) (h1:i < (ns.length:Int)):TnsG (ndN ns i).D (ndN ns i).X:=by
 obtain ⟨j,rfl⟩:∃ j:Nat,i=j:=⟨i.toNat,by omega⟩
 have hj:ns[j]?=some (ns[j]'(by omega)):=List.getElem?_eq_getElem _
 rw [nd_at hj]
 exact h _ (nd_mem hj)
theorem NodesG.do {ns:List Nd} {op a b k:Int} (h:NodesG ns):NodesG (doN ns op a b k):=by
 unfold doN
 split
 ·rename_i hp
  have ho:=hp.1.2
  refine h.push ?_
  exact rk_g ho.1.1 ho.1.2 (h.at ho.2.1.1 ho.2.1.2).2.2 hp.2
 ·exact h
theorem leaf_len (ns:List Nd) (d x:List Int) (h:ns.length≤512):(leafN ns d x).length≤512:=by
 unfold leafN
 split
 ·rename_i hp
  have:=hp.1
  simp
  omega
 ·exact h
theorem do_len (ns:List Nd) (op a b k:Int) (h:ns.length≤512):(doN ns op a b k).length≤512:=by
 unfold doN
 split
 ·rename_i hp
  have:=hp.1.1
  simp
  omega
 ·exact h
/-- One step: its error, its number, the nodes behind it. -/
def lsE (ns:List Nd) (s:Nd):Int:=if s.op=1 then leafE ns s.D s.X else doE ns s.op s.a s.b s.k
def lsR (ns:List Nd) (s:Nd):Int:=if s.op=1 then leafR ns s.D s.X else doR ns s.op s.a s.b s.k
def lsN (ns:List Nd) (s:Nd):List Nd:=if s.op=1 then leafN ns s.D s.X else doN ns s.op s.a s.b s.k
def stA (sts:List Nd) (i:Nat):Nd:=sts.getD i ⟨1,0,0,0,[],[]⟩
/-- The first i steps: an error, the nodes, the last one's number. -/
def lyF (sts ns:List Nd):Nat→Int×List Nd×Int
 | 0=>(0,ns,0)
 | i+1=>if (lyF sts ns i).1=0 then (lsE (lyF sts ns i).2.1 (stA sts i),lsN (lyF sts ns i).2.1 (stA sts i),lsR (lyF sts ns i).2.1 (stA sts i)) else lyF sts ns i
theorem lyF_stop (sts ns:List Nd) (i:Nat) (h:(lyF sts ns i).1≠0):∀ k,lyF sts ns (i+k)=lyF sts ns i
 | 0=>rfl
 | k+1=>by
  have e:=lyF_stop sts ns i h k
  show (if (lyF sts ns (i+k)).1=0 then _ else lyF sts ns (i+k))=_
  rw [e,if_neg h]
theorem lyF_go {sts ns ms ms':List Nd} {i:Nat} {r r':Int} (h:lyF sts ns i=(0,ms,r)) (h1:lsE ms (stA sts i)=0) (h2:lsN ms (stA sts i)=ms') (h3:lsR ms (stA sts i)=r'):lyF sts ns (i+1)=(0,ms',r'):=by
 show (if (lyF sts ns i).1=0 then _ else _)=_
 rw [h]
 simp only [if_pos]
 rw [h1,h2,h3]
abbrev lyP (ns sts:List Nd):Prop:=ns.length+sts.length≤512
def lyE (ns sts:List Nd):Int:=if lyP ns sts then (lyF sts ns sts.length).1 else 2
def lyR (ns sts:List Nd):Int:=if lyP ns sts∧(lyF sts ns sts.length).1=0 then (lyF sts ns sts.length).2.2 else 0
def lyM (ns sts:List Nd):List Nd:=if lyP ns sts then (lyF sts ns sts.length).2.1 else ns
/-- Whether out and want go together; whether a class is one of out's places. -/
def fitE (ns:List Nd) (o:Int) (y:List Int):Int:=if (0≤o∧o < (ns.length:Int))∧y.length=(ndN ns o).X.length then if (ndN ns o).D.length=1 then 0 else 4 else 1
def plcE (ns:List Nd) (o c:Int):Int:=if 0≤o∧o < (ns.length:Int) then if (ndN ns o).D.length=1∧0≤c∧c < ((ndN ns o).X.length:Int) then 0 else 4 else 1
def plcN (ns:List Nd) (o c:Int):Nat:=if plcE ns o c=0 then (ndN ns o).X.length else 0
def lfS (y:List Int):Nd:=⟨1,0,0,0,[(y.length:Int)],y⟩
def opS (op a b k:Int):Nd:=⟨op,a,b,k,[],[]⟩
def sqS (N o:Int) (y:List Int):List Nd:=[lfS y,opS 3 o N 0,opS 4 (N+1) (N+1) 0,opS 10 (N+2) 0 0]
def szS (N o:Int) (y:List Int):List Nd:=[lfS y,opS 3 o N 0,opS 11 (N+1) 0 4,opS 10 (N+2) 0 0]
def butV (m:Nat) (a c t:Int):List Int:=(List.replicate m a).set c.toNat t
def hgS (N o:Int) (m:Nat) (c:Int):List Nd:=[lfS (butV m 0 c (-4294967296)),lfS (butV m 4294967296 c 0),opS 4 o N 0,opS 9 (N+2) 0 0,opS 2 o (N+3) 0,opS 2 (N+4) (N+1) 0,opS 11 (N+5) 0 1,opS 4 (N+6) (N+1) 0,opS 9 (N+7) 0 0]
/-- What a loss tells and leaves, e what was asked first. -/
def loE (e:Int) (ns sts:List Nd):Int:=if e=0 then lyE ns sts else e
def loR (e:Int) (ns sts:List Nd):Int:=if e=0 then lyR ns sts else 0
def loN (e:Int) (ns sts:List Nd):List Nd:=if e=0 then lyM ns sts else ns
theorem NodesG.ls {ns:List Nd} {s:Nd} (h:NodesG ns) (hx:RI s.X):NodesG (lsN ns s):=by
 unfold lsN
 split
 ·exact h.leaf hx
 ·exact h.do
theorem RI_nil:RI []:=fun y hy=>by simp at hy
/-- Nodes behind others. -/
theorem nd_keep {ns ms:List Nd} {i:Int} (h:0≤i∧i < (ns.length:Int)):ndN (ns++ms) i=ndN ns i:=by
 unfold ndN
 rw [List.getD_eq_getElem?_getD,List.getD_eq_getElem?_getD,List.getElem?_append_left (by omega)]
theorem nd_last (ns:List Nd) (nd:Nd):ndN (ns++[nd]) (ns.length:Int)=nd:=by
 unfold ndN
 rw [List.getD_eq_getElem?_getD,Int.toNat_natCast,List.getElem?_append_right (Nat.le_refl _),Nat.sub_self]
 rfl
theorem leaf_ok {ns:List Nd} {d x:List Int} (h:ns.length < 512) (p:isP d x):leafE ns d x=0∧leafR ns d x=(ns.length:Int)∧leafN ns d x=ns++[⟨1,-1,-1,0,d,x⟩]:=
 ⟨(if_neg (by omega)).trans (if_pos p),if_pos ⟨h,p⟩,if_pos ⟨h,p⟩⟩
theorem do_ok {ns:List Nd} {op a b k:Int} (h:ns.length < 512) (ho:okD ns op a b) (hd:dE ns op a b k=0):doE ns op a b k=0∧doR ns op a b k=(ns.length:Int)∧doN ns op a b k=ns++[dN ns op a b k]:=by
 have hP:doP ns op a b k:=⟨⟨h,ho⟩,hd⟩
 exact ⟨(if_neg (by omega)).trans ((if_pos ho).trans hd),if_pos hP,if_pos hP⟩
/-- Rows of one side. -/
structure RwP (n:Nat) (x:List Int):Prop where
 l:x.length=n
 h1:1≤n
 h2:n≤4096
theorem RwP.isP {n:Nat} {x:List Int} (h:RwP n x):isP [(n:Int)] x:=by
 have en:ntl [(n:Int)] = [n]:=ntl_itl [n]
 refine ⟨?_,?_⟩
 ·rw [en]
  exact ⟨by simp,fun y hy=>by simp at hy;have:=h.h1;omega,by have:=h.h2;simp [prodN];omega⟩
 ·rw [en,h.l]
  simp [prodN]
def mp2 (f:Int→Int→Int) (x y:List Int):List Int:=(List.range x.length).map fun i=>f (x.getD i 0) (y.getD i 0)
theorem RwP.map2 {n:Nat} {x y:List Int} (h:RwP n x) (f:Int→Int→Int):RwP n (mp2 f x y):=⟨by simp [mp2,h.l],h.h1,h.h2⟩
theorem RwP.map {n:Nat} {x:List Int} (h:RwP n x) (f:Int→Int):RwP n (x.map f):=⟨by simp [h.l],h.h1,h.h2⟩
theorem row_each {f:Int→Int→Int} {n:Nat} {x y:List Int} (hx:RwP n x) (hy:RwP n y):eachE [(n:Int)] x [(n:Int)] y=0∧eachD [(n:Int)] x [(n:Int)] y = [(n:Int)]∧eachV f [(n:Int)] x [(n:Int)] y=mp2 f x y:=by
 have px:=hx.isP
 have py:=hy.isP
 have en:ntl [(n:Int)] = [n]:=ntl_itl [n]
 have ga:goodN [n]:=by have:=px.1;rwa [en] at this
 obtain ⟨f',j⟩:=join_same [n]
 obtain ⟨p1,p2⟩:=join_fine ga ga f' (by rw [j];exact ga)
 rw [j] at p1
 have p1':joinL [(n:Int)] [(n:Int)] = [(n:Int)]:=p1
 have p2':joinE [(n:Int)] [(n:Int)]=0:=p2
 refine ⟨(if_pos ⟨px,py⟩).trans p2',(if_pos ⟨px,py⟩).trans p1',(if_pos ⟨⟨px,py⟩,p2'⟩).trans ?_⟩
 rw [p1',en]
 unfold mp2
 rw [hx.l,show prodN [n]=n by simp [prodN]]
 refine List.map_congr_left fun i hi=>?_
 have hi':=List.mem_range.1 hi
 rw [from_same ga i (by simp [prodN];omega)]
/-- Number by number, of two nodes that are rows of as many. -/
theorem do_two {ms:List Nd} {op a b:Int} (f:Int→Int→Int) (h2:twoP op) (hb:¬ byP op) (hop:2≤op∧op≤14)
  (rE:∀ D X D' X',rkE op D X D' X' 0=eachE D X D' X') (rD:∀ D X D' X',rkD op D X D' X' 0=eachD D X D' X') (rV:∀ D X D' X',rkV op D X D' X' 0=eachV f D X D' X')
  (hl:ms.length < 512) (ha:0≤a∧a < (ms.length:Int)) (hbb:0≤b∧b < (ms.length:Int)) {E:Int} {V D X D' X':List Int} (eD:(ndN ms a).D=D) (eX:(ndN ms a).X=X) (eD':(ndN ms b).D=D') (eX':(ndN ms b).X=X') {DD:List Int} (he:eachE D X D' X'=0∧eachD D X D' X'=DD∧eachV f D X D' X'=V):
  doE ms op a b 0=0∧doR ms op a b 0=(ms.length:Int)∧doN ms op a b 0=ms++[⟨op,a,b,0,DD,V⟩]:=by
 have hd:dE ms op a b 0=0:=by
  unfold dE dD dX dK
  rw [if_pos h2,if_pos h2,if_neg hb,rE,eD,eX,eD',eX']
  exact he.1
 obtain ⟨h3,h4,h5⟩:=do_ok (k:=0) hl ⟨hop,ha,fun _=>hbb⟩ hd
 refine ⟨h3,h4,h5.trans ?_⟩
 unfold dN dD dX dK dB
 rw [if_pos h2,if_pos h2,if_pos h2,if_neg hb,rD,rV,eD,eX,eD',eX',he.2.1,he.2.2]
/-- Of one node. -/
theorem do_one {ms:List Nd} {op a b k:Int} (h2:¬ twoP op) (hop:2≤op∧op≤14) (hl:ms.length < 512) (ha:0≤a∧a < (ms.length:Int)) {K:Int} {D X DD V:List Int} (eD:(ndN ms a).D=D) (eX:(ndN ms a).X=X) (eK:dK op k=K) (rE:rkE op D X [] [] K=0) (rD:rkD op D X [] [] K=DD) (rV:rkV op D X [] [] K=V):
  doE ms op a b k=0∧doR ms op a b k=(ms.length:Int)∧doN ms op a b k=ms++[⟨op,a,-1,K,DD,V⟩]:=by
 have hd:dE ms op a b k=0:=by
  unfold dE dD dX
  rw [if_neg h2,if_neg h2,eK,eD,eX]
  exact rE
 obtain ⟨h3,h4,h5⟩:=do_ok hl ⟨hop,ha,fun h=>absurd h h2⟩ hd
 refine ⟨h3,h4,h5.trans ?_⟩
 unfold dN dD dX dB
 rw [if_neg h2,if_neg h2,if_neg h2,eK,eD,eX,rD,rV]
theorem rk_mean {n:Nat} {x:List Int} (h:RwP n x):rkE 10 [(n:Int)] x [] [] 0=0∧rkV 10 [(n:Int)] x [] [] 0 = [meanI x]:=by
 refine ⟨(show matE [(n:Int)] x=0 from if_pos h.isP),?_⟩
 show (if isP [(n:Int)] x then [meanV [(n:Int)] x] else [])=_
 rw [if_pos h.isP]
 unfold meanV
 rw [if_pos h.isP]
theorem rk_bend {n:Nat} {x:List Int} (h:RwP n x) {k:Int} (hk:1≤k∧k≤5):rkE 11 [(n:Int)] x [] [] k=0∧rkD 11 [(n:Int)] x [] [] k = [(n:Int)]∧rkV 11 [(n:Int)] x [] [] k=x.map fun y=>Fx.bendI k y:=
 ⟨(show bentE k [(n:Int)] x=0 from if_pos ⟨hk,h.isP⟩),(show bentD k [(n:Int)] x=_ from if_pos ⟨hk,h.isP⟩),(show bentV k [(n:Int)] x=_ from if_pos ⟨hk,h.isP⟩)⟩
/-- What is known of a node that is a row. -/
structure RwN (ms:List Nd) (i:Int) (n:Nat) (x:List Int):Prop where
 r:0≤i∧i < (ms.length:Int)
 D:(ndN ms i).D = [(n:Int)]
 X:(ndN ms i).X=x
theorem RwN.app {ms:List Nd} {i:Int} {n:Nat} {x:List Int} (h:RwN ms i n x) (nd:Nd):RwN (ms++[nd]) i n x:=by
 refine ⟨⟨h.r.1,by have:=h.r.2;rw [List.length_append];simp;omega⟩,?_,?_⟩
 ·rw [nd_keep h.r];exact h.D
 ·rw [nd_keep h.r];exact h.X
theorem RwN.last (ms:List Nd) (op a b k:Int) (n:Nat) (x:List Int) {i:Int} (hi:(ms.length:Int)=i):RwN (ms++[⟨op,a,b,k,[(n:Int)],x⟩]) i n x:=by
 subst hi
 refine ⟨⟨by omega,by rw [List.length_append];simp;omega⟩,?_,?_⟩ <;> rw [nd_last]
theorem go_two {ms:List Nd} {op a b:Int} (f:Int→Int→Int) (h2:twoP op) (hb:¬ byP op) (hop:2≤op∧op≤14)
  (rE:∀ D X D' X',rkE op D X D' X' 0=eachE D X D' X') (rD:∀ D X D' X',rkD op D X D' X' 0=eachD D X D' X') (rV:∀ D X D' X',rkV op D X D' X' 0=eachV f D X D' X')
  (hl:ms.length < 512) {n:Nat} {x y:List Int} (hx:RwP n x) (hy:RwP n y) (na:RwN ms a n x) (nb:RwN ms b n y):lsE ms (opS op a b 0)=0∧lsN ms (opS op a b 0)=ms++[⟨op,a,b,0,[(n:Int)],mp2 f x y⟩]∧lsR ms (opS op a b 0)=(ms.length:Int):=by
 have h1:¬ (opS op a b 0).op=1:=by show ¬ op=1;omega
 obtain ⟨e1,e2,e3⟩:=do_two (E:=0) f h2 hb hop rE rD rV hl na.r nb.r na.D na.X nb.D nb.X (row_each (f:=f) hx hy)
 exact ⟨(if_neg h1).trans e1,(if_neg h1).trans e3,(if_neg h1).trans e2⟩
theorem go_sub {ms:List Nd} {a b:Int} (hl:ms.length < 512) {n:Nat} {x y:List Int} (hx:RwP n x) (hy:RwP n y) (na:RwN ms a n x) (nb:RwN ms b n y):lsE ms (opS 3 a b 0)=0∧lsN ms (opS 3 a b 0)=ms++[⟨3,a,b,0,[(n:Int)],mp2 (fun p q=>Fx.hold (p - q)) x y⟩]∧lsR ms (opS 3 a b 0)=(ms.length:Int):=
 go_two _ (.inr (.inl rfl)) (by omega) (by omega) (fun _ _ _ _=>rfl) (fun _ _ _ _=>rfl) (fun _ _ _ _=>rfl) hl hx hy na nb
theorem go_mean {ms:List Nd} {a b:Int} (hl:ms.length < 512) {n:Nat} {x:List Int} (hx:RwP n x) (na:RwN ms a n x):lsE ms (opS 10 a b 0)=0∧lsN ms (opS 10 a b 0)=ms++[⟨10,a,-1,0,[],[meanI x]⟩]∧lsR ms (opS 10 a b 0)=(ms.length:Int):=by
 obtain ⟨e1,e2,e3⟩:=do_one (b:=b) (k:=0) (op:=10) (by omega) (by omega) hl na.r na.D na.X rfl (rk_mean hx).1 rfl (rk_mean hx).2
 exact ⟨e1,e3,e2⟩
theorem go_bend {ms:List Nd} {a b:Int} (hl:ms.length < 512) {n:Nat} {x:List Int} (hx:RwP n x) (na:RwN ms a n x) {k:Int} (hk:1≤k∧k≤5):lsE ms (opS 11 a b k)=0∧lsN ms (opS 11 a b k)=ms++[⟨11,a,-1,k,[(n:Int)],x.map fun y=>Fx.bendI k y⟩]∧lsR ms (opS 11 a b k)=(ms.length:Int):=by
 obtain ⟨e1,e2,e3⟩:=do_one (b:=b) (k:=k) (op:=11) (by omega) (by omega) hl na.r na.D na.X rfl (rk_bend hx hk).1 (rk_bend hx hk).2.1 (rk_bend hx hk).2.2
 exact ⟨e1,e3,e2⟩
theorem go_leaf {ms:List Nd} (hl:ms.length < 512) {n:Nat} {x:List Int} (hx:RwP n x):lsE ms (lfS x)=0∧lsN ms (lfS x)=ms++[⟨1,-1,-1,0,[(n:Int)],x⟩]∧lsR ms (lfS x)=(ms.length:Int):=by
 obtain ⟨e1,e2,e3⟩:=leaf_ok hl hx.isP
 unfold lfS
 rw [hx.l]
 exact ⟨e1,e3,e2⟩
theorem len_app (ms:List Nd) (nd:Nd):(ms++[nd]).length=ms.length+1:=by simp
def dif (x y:List Int):List Int:=mp2 (fun p q=>Fx.hold (p - q)) x y
def szV (x y:List Int):List Int:=(dif x y).map fun v=>Fx.bendI 4 v
def lf1 (ms:List Nd) (n:Nat) (y:List Int):List Nd:=ms++[⟨1,-1,-1,0,[(n:Int)],y⟩]
def df2 (ms:List Nd) (o:Int) (n:Nat) (x y:List Int):List Nd:=lf1 ms n y++[⟨3,o,(ms.length:Int),0,[(n:Int)],dif x y⟩]
def sz3 (ms:List Nd) (o:Int) (n:Nat) (x y:List Int):List Nd:=df2 ms o n x y++[⟨11,(ms.length:Int)+1,-1,4,[(n:Int)],szV x y⟩]
def sz4 (ms:List Nd) (o:Int) (n:Nat) (x y:List Int):List Nd:=sz3 ms o n x y++[⟨10,(ms.length:Int)+2,-1,0,[],[meanI (szV x y)]⟩]
theorem lf1_len (ms:List Nd) (n:Nat) (y:List Int):(lf1 ms n y).length=ms.length+1:=len_app _ _
theorem df2_len (ms:List Nd) (o:Int) (n:Nat) (x y:List Int):(df2 ms o n x y).length=ms.length+2:=(len_app _ _).trans (by rw [lf1_len])
theorem sz3_len (ms:List Nd) (o:Int) (n:Nat) (x y:List Int):(sz3 ms o n x y).length=ms.length+3:=(len_app _ _).trans (by rw [df2_len])
/-- A row of a tape, and one that is held against it. -/
structure Fit (ms:List Nd) (o:Int) (n:Nat) (x y:List Int) (m:Nat):Prop where
 hx:RwP n x
 hy:RwP n y
 ho:RwN ms o n x
 hl:ms.length+m≤512
theorem Fit.dif {ms:List Nd} {o:Int} {n m:Nat} {x y:List Int} (h:Fit ms o n x y m):RwP n (dif x y):=h.hx.map2 _
theorem Fit.sz {ms:List Nd} {o:Int} {n m:Nat} {x y:List Int} (h:Fit ms o n x y m):RwP n (szV x y):=h.dif.map _
theorem Fit.e {ms:List Nd} {o:Int} {n m:Nat} {x y:List Int} (h:Fit ms o n x y m):fitE ms o y=0:=by
 unfold fitE
 rw [if_pos ⟨h.ho.r,by rw [h.ho.X,h.hx.l,h.hy.l]⟩,if_pos (by rw [h.ho.D];rfl)]
theorem Fit.two {ms:List Nd} {o:Int} {n:Nat} {x y:List Int} (h:Fit ms o n x y 4) {S:List Nd} (s0:stA S 0=lfS y) (s1:stA S 1=opS 3 o (ms.length:Int) 0):lyF S ms 2=(0,df2 ms o n x y,(ms.length:Int)+1):=by
 have hl:=h.hl
 obtain ⟨a1,a2,a3⟩:=go_leaf (ms:=ms) (by omega) h.hy
 have e1:lyF S ms 1=(0,lf1 ms n y,(ms.length:Int)):=lyF_go (i:=0) (r:=0) rfl (by rw [s0];exact a1) (by rw [s0];exact a2) (by rw [s0];exact a3)
 obtain ⟨b1,b2,b3⟩:=go_sub (ms:=lf1 ms n y) (a:=o) (b:=(ms.length:Int)) (by rw [lf1_len];omega) h.hx h.hy (h.ho.app _) (RwN.last _ _ _ _ _ _ _ rfl)
 exact lyF_go e1 (by rw [s1];exact b1) (by rw [s1];exact b2) (by rw [s1];exact b3.trans (by rw [lf1_len];rfl))
theorem Fit.dfN {ms:List Nd} {o:Int} {n m:Nat} {x y:List Int} (h:Fit ms o n x y m):RwN (df2 ms o n x y) ((ms.length:Int)+1) n (Wd.dif x y):=RwN.last _ _ _ _ _ _ _ (by rw [lf1_len];rfl)
theorem sz_ok {ms:List Nd} {o:Int} {n:Nat} {x y:List Int} (h:Fit ms o n x y 4):lyF (szS (ms.length:Int) o y) ms 4=(0,sz4 ms o n x y,(ms.length:Int)+3):=by
 have hl:=h.hl
 have e2:=h.two (S:=szS (ms.length:Int) o y) rfl rfl
 obtain ⟨c1,c2,c3⟩:=go_bend (b:=0) (ms:=df2 ms o n x y) (by rw [df2_len];omega) h.dif h.dfN (k:=4) (by omega)
 have e3:lyF (szS (ms.length:Int) o y) ms 3=(0,sz3 ms o n x y,(ms.length:Int)+2):=lyF_go e2 c1 c2 (c3.trans (by rw [df2_len];rfl))
 obtain ⟨d1,d2,d3⟩:=go_mean (b:=0) (ms:=sz3 ms o n x y) (a:=(ms.length:Int)+2) (by rw [sz3_len];omega) h.sz (RwN.last _ _ _ _ _ _ _ (by rw [df2_len];rfl))
 exact lyF_go e3 d1 d2 (d3.trans (by rw [sz3_len];rfl))
theorem lo_ok {ms NS S:List Nd} {e R:Int} (he:e=0) (hl:ms.length+S.length≤512) (h:lyF S ms S.length=(0,NS,R)):loE e ms S=0∧loR e ms S=R∧loN e ms S=NS:=by
 subst he
 have hE:lyE ms S=0:=(if_pos hl).trans (by rw [h])
 refine ⟨(if_pos rfl).trans hE,(if_pos rfl).trans ((if_pos ⟨hl,by rw [h]⟩).trans (by rw [h])),(if_pos rfl).trans ((if_pos hl).trans (by rw [h]))⟩
theorem Fit.size {ms:List Nd} {o:Int} {n:Nat} {x y:List Int} (h:Fit ms o n x y 4):loE (fitE ms o y) ms (szS (ms.length:Int) o y)=0∧loR (fitE ms o y) ms (szS (ms.length:Int) o y)=(ms.length:Int)+3∧loN (fitE ms o y) ms (szS (ms.length:Int) o y)=sz4 ms o n x y:=lo_ok h.e h.hl (sz_ok h)
theorem RwN.sz {ms:List Nd} {o:Int} {n:Nat} {x:List Int} (h:RwN ms o n x) (o':Int) (n':Nat) (x' y:List Int):RwN (sz4 ms o' n' x' y) o n x:=(((h.app _).app _).app _).app _
/-- Hinge. -/
def hgA (n:Nat) (c:Int):List Int:=butV n 0 c (-4294967296)
def hgB (n:Nat) (c:Int):List Int:=butV n 4294967296 c 0
def hgT (n:Nat) (c:Int) (x:List Int):Int:=Fx.hold (totalI (mp2 Fx.mulI x (hgA n c)))
def h5V (n:Nat) (c:Int) (x:List Int):List Int:=x.map fun v=>Fx.hold (v+hgT n c x)
def h6V (n:Nat) (c:Int) (x:List Int):List Int:=mp2 (fun p q=>Fx.hold (p+q)) (h5V n c x) (hgB n c)
def h7V (n:Nat) (c:Int) (x:List Int):List Int:=(h6V n c x).map fun v=>Fx.bendI 1 v
def h8V (n:Nat) (c:Int) (x:List Int):List Int:=mp2 Fx.mulI (h7V n c x) (hgB n c)
def hg2 (ms:List Nd) (n:Nat) (c:Int):List Nd:=ms++[⟨1,-1,-1,0,[(n:Int)],hgA n c⟩]++[⟨1,-1,-1,0,[(n:Int)],hgB n c⟩]
def hg4 (ms:List Nd) (o:Int) (n:Nat) (c:Int) (x:List Int):List Nd:=hg2 ms n c++[⟨4,o,(ms.length:Int),0,[(n:Int)],mp2 Fx.mulI x (hgA n c)⟩]++[⟨9,(ms.length:Int)+2,-1,0,[],[hgT n c x]⟩]
def hg6 (ms:List Nd) (o:Int) (n:Nat) (c:Int) (x:List Int):List Nd:=hg4 ms o n c x++[⟨2,o,(ms.length:Int)+3,0,[(n:Int)],h5V n c x⟩]++[⟨2,(ms.length:Int)+4,(ms.length:Int)+1,0,[(n:Int)],h6V n c x⟩]
def hg8 (ms:List Nd) (o:Int) (n:Nat) (c:Int) (x:List Int):List Nd:=hg6 ms o n c x++[⟨11,(ms.length:Int)+5,-1,1,[(n:Int)],h7V n c x⟩]++[⟨4,(ms.length:Int)+6,(ms.length:Int)+1,0,[(n:Int)],h8V n c x⟩]
def TapC (W:World) (B b:Nat) (ns:List Nd):Prop:=Tap 90 109 W B b ns
abbrev SC:List TypeId:=[90,109]
theorem TapC.up {W W':World} {B b:Nat} {ns:List Nd} (h:TapC W B b ns) (hB:Below W.heap.size W W'):TapC W' B b ns:=Tap.up h hB
theorem ne_ct:109≠90:=by decide
def Spare (tb:Nat) (w w':World):Prop:=∀ x v,w.heap[tb]?=some (.cells #[v] 90 (0,0))→x≠tb→x < w.heap.size→v.ownBlock≠some x→w'.heap[x]?=w.heap[x]?∧∃ v',w'.heap[tb]?=some (.cells #[v'] 90 (0,0))∧v'.ownBlock≠some x
theorem Spare.of {tb:Nat} {w w':World} (h:Below w.heap.size w w'):Spare tb w w':=fun x v hv _ hx ho=>⟨h.block x hx,v,(h.block tb (heap_lt hv)).trans hv,ho⟩
theorem Spare.trans {tb:Nat} {a b c:World} (h:Spare tb a b) (h2:Spare tb b c):Spare tb a c:=fun x v hv hn hx ho=>by
 obtain ⟨e1,v',hv',ho'⟩:=h x v hv hn hx ho
 have hb:x < b.heap.size:=by
  rw [Array.getElem?_eq_getElem hx] at e1
  exact heap_lt e1
 obtain ⟨e2,r⟩:=h2 x v' hv' hn hb ho'
 exact ⟨e2.trans e1,r⟩
/-- No node's dims lie in block x. -/
def AvT (x:Nat) (W:World) (tb:Nat):Prop:=∃ v,W.heap[tb]?=some (.cells #[v] 90 (0,0))∧∀ g m c,v = .slice (some ⟨g,0,none⟩) m c→g < W.heap.size∧∀ i,i < m→∀ ad m' c',W.cell? ⟨g,i*6+4,none⟩=some (.slice (some ad) m' c')→ad.block≠x
def SpA (H tb:Nat) (w w':World):Prop:=∀ x,x < H→AvT x w tb→AvT x w' tb
theorem AvT.up {x tb:Nat} {W W':World} (h:AvT x W tb) (hB:Below W.heap.size W W'):AvT x W' tb:=by
 obtain ⟨v,hv,h⟩:=h
 refine ⟨v,(hB.block tb (heap_lt hv)).trans hv,fun g m c e=>?_⟩
 obtain ⟨hg,h2⟩:=h g m c e
 refine ⟨Nat.lt_of_lt_of_le hg hB.size,fun i hi ad m' c' hc=>h2 i hi ad m' c' ?_⟩
 unfold World.cell? at hc ⊢
 rw [← hB.block g hg]
 exact hc
theorem av_push {w6 w8:World} {B tb N cL c8 g8 x:Nat} {pL:Option Addr} {xs0 u:List Value} {s:Value} (hv6:w6.heap[tb]?=some (.cells #[.slice pL N cL] 90 (0,0))) (ho6:w6.ownsRow B 109 6 (.slice pL N cL) N xs0) (hl:xs0.length=N*6) (hv8:w8.heap[tb]?=some (.cells #[.slice pL N cL] 90 (0,0)))
  (ho8:w8.ownsRow B 109 6 (.slice (some ⟨g8,0,none⟩) (N+1) c8) (N+1) (xs0++u)) (hu:u[4]?=some s) (hs:∀ ad m c,s = .slice (some ad) m c→ad.block≠x) (hav:AvT x w6 tb):AvT x (w8.setCell ⟨tb,0,none⟩ (.slice (some ⟨g8,0,none⟩) (N+1) c8)) tb:=by
 obtain ⟨v,hv,hav⟩:=hav
 rw [hv6] at hv
 cases hv
 have hne:g8≠tb:=fun e=>owned_off ne_ct hv8 ho8 (by rw [← e];rfl)
 refine ⟨_,(heap_setat hv8).trans rfl,fun g m c e=>?_⟩
 cases e
 refine ⟨by have:=(World.ownsRow.lt ho8 g8 rfl).2;simpa using this,fun i hi ad m' c' hc=>?_⟩
 have hc2:w8.cell? ⟨g8,i*6+4,none⟩=some (.slice (some ad) m' c'):=by
  unfold World.cell? at hc ⊢
  rw [heap_set _ _ _ _ _ hne] at hc
  exact hc
 by_cases hi2:i < N
 ·have hj:i*6+4 < xs0.length:=by omega
  obtain ⟨z,hz⟩:∃ z,xs0[i*6+4]?=some z:=⟨_,List.getElem?_eq_getElem hj⟩
  have h8:=ho8.cells (g:=g8) rfl (i*6+4) z (by rw [List.getElem?_append_left hj];exact hz)
  rw [addr_plus,Nat.zero_add,hc2] at h8
  cases h8
  rcases ho6.2 with ⟨h0,h1⟩|⟨g,cap,cur,hv,hb,hg,rest⟩
  ·omega
  ·cases hv
   have h6:=ho6.cells (g:=g) rfl (i*6+4) _ hz
   rw [addr_plus,Nat.zero_add] at h6
   exact (hav g N cL rfl).2 i hi2 ad m' c' h6
 ·have hiN:i=N:=by omega
  subst hiN
  have h8:=ho8.cells (g:=g8) rfl (i*6+4) s (by rw [List.getElem?_append_right (by omega),hl,Nat.add_sub_cancel_left];exact hu)
  rw [addr_plus,Nat.zero_add,hc2] at h8
  cases h8
  exact hs ad m' c' rfl
theorem own_above {W:World} {H na ca:Nat} {pa:Option Addr} {D:List Int} (h:OwnK .i64 3 W H (.slice pa na ca) D):∀ ad m c,Value.slice pa na ca = .slice (some ad) m c→H≤ad.block:=fun ad m c e=>by
 rcases h.2 with ⟨hn,_⟩|⟨g,cap,cur,hv,hb,_⟩
 ·rw [e] at hn
  cases hn
 ·rw [e] at hv
  cases hv
  exact hb
theorem own_avoid {W:World} {H na ca x:Nat} {pa:Option Addr} {D:List Int} (h:OwnK .i64 3 W H (.slice pa na ca) D) (hx:x < H):∀ ad m c,Value.slice pa na ca = .slice (some ad) m c→ad.block≠x:=fun ad m c e=>by
 have:=own_above h ad m c e
 omega
/-- What a tape's change leaves to others. -/
def Spar2 (tb:Nat) (w w':World):Prop:=Spare tb w w'∧SpA w.heap.size tb w w'
theorem Spar2.of {tb:Nat} {w w':World} (h:Below w.heap.size w w'):Spar2 tb w w':=⟨Spare.of h,fun x _ ha=>ha.up h⟩
theorem Spar2.trans {tb:Nat} {a b c:World} (h:Spar2 tb a b) (h2:Spar2 tb b c) (hs:a.heap.size≤b.heap.size):Spar2 tb a c:=⟨h.1.trans h2.1,fun x hx ha=>h2.2 x (Nat.lt_of_lt_of_le hx hs) (h.2 x hx ha)⟩
theorem Spar2.kept {tb pn cn:Nat} {pa:Option Addr} {D:List Int} {w w6 w7:World} (h:Below w.heap.size w w6) (h2:Spare tb w6 w7∧∀ H,OwnK .i64 3 w6 H (.slice pa pn cn) D→SpA H tb w6 w7) (hD:OwnK .i64 3 w6 w.heap.size (.slice pa pn cn) D):Spar2 tb w w7:=
 ⟨(Spare.of h).trans h2.1,fun x hx ha=>h2.2 _ hD x hx (ha.up h)⟩
/-- A node's dims lie below the heap's end. -/
theorem TapC.av {W:World} {B tb x:Nat} {ns:List Nd} (h:TapC W B tb ns) (hx:W.heap.size≤x):AvT x W tb:=by
 obtain ⟨p,c,xs,hv,ho,hn,_⟩:=Tap.head h
 refine ⟨_,hv,fun g m c' e=>?_⟩
 cases e
 refine ⟨(World.ownsRow.lt ho g rfl).2,fun i hi ad m' c'' hc=>?_⟩
 obtain ⟨q,nd,s,t,e,_,_,_,_,_,h4,_,hs,_⟩:=node_cells ho hn rfl i hi
 cases e
 rw [hc] at h4
 cases h4
 rcases hs.2 with ⟨h0,_⟩|⟨g2,cap,cur,hv2,_,hg2,_⟩
 ·cases h0
 ·cases hv2
  have:=heap_lt hg2
  intro e
  have e':g2=x:=e
  omega
/-- A row of ints of another's may grow. -/
theorem TapC.beside {W W':World} {B tb r:Nat} {ns:List Nd} {cs:Array Value} {fz:Nat×Nat} (h:TapC W B tb ns) (hg:W.grownBy W' (some r)) (hr:W.heap[r]?=some (.cells cs 3 fz)) (ha:AvT r W tb):TapC W' B tb ns:=by
 have hk:∀ (k:Nat) (cs':Array Value) (e:TypeId) (fz':Nat×Nat),W.heap[k]?=some (.cells cs' e fz')→e≠3→W'.heap[k]?=some (.cells cs' e fz'):=fun k cs' e fz' h1 h2=>by
  rw [hg.block k (heap_lt h1) (fun e'=>by cases e';rw [hr] at h1;cases h1;exact h2 rfl)]
  exact h1
 obtain ⟨hb,v,xs,hv,ho,hn⟩:=h
 have hrow:W'.ownsRow B 109 6 v ns.length xs:=by
  refine ⟨ho.1,?_⟩
  rcases ho.2 with hn|⟨g,cap,cur,hv,hb,hg,rest⟩
  ·exact .inl hn
  ·exact .inr ⟨g,cap,cur,hv,hb,hk _ _ _ _ hg (by decide),rest⟩
 refine ⟨hb,v,xs,hk _ _ _ _ hv (by decide),hrow,hn.1,fun i nd hi=>?_⟩
 obtain ⟨s,t,e,hs,ht⟩:=hn.2 i nd hi
 refine ⟨s,t,e,⟨hs.1,?_⟩,⟨ht.1,?_⟩⟩
 ·rcases hs.2 with hn'|⟨g,cap,cur,hvs,hbs,hgs,rest⟩
  ·exact .inl hn'
  ·refine .inr ⟨g,cap,cur,hvs,hbs,?_,rest⟩
   rw [hg.block g (heap_lt hgs) (fun e'=>?_)]
   ·exact hgs
   ·cases e'
    obtain ⟨v',hv',hav⟩:=ha
    rw [hv] at hv'
    cases hv'
    have hi':i < ns.length:=by
     rcases Nat.lt_or_ge i ns.length with h|h
     ·exact h
     ·rw [List.getElem?_eq_none h] at hi;cases hi
    have hx:xs[i*6+4]?=some s:=by
     have h4:((xs.drop (i*6)).take 6)[4]?=some s:=by rw [e];rfl
     rw [List.getElem?_take] at h4
     split at h4
     ·rw [List.getElem?_drop] at h4
      exact h4
     ·cases h4
    rcases ho.2 with ⟨_,h1⟩|⟨g2,cap2,cur2,hv2,_,_,_⟩
    ·omega
    ·subst hv2
     have h6:=ho.cells (g:=g2) rfl (i*6+4) _ hx
     rw [addr_plus,Nat.zero_add,hvs] at h6
     exact (hav g2 _ _ rfl).2 i hi' _ _ _ h6 rfl
 ·rcases ht.2 with hn'|⟨g,cap,cur,hvs,hbs,hgs,rest⟩
  ·exact .inl hn'
  ·exact .inr ⟨g,cap,cur,hvs,hbs,hk _ _ _ _ hgs (by decide),rest⟩
theorem AvT.beside {W W':World} {tb r x B:Nat} {ns:List Nd} {cs:Array Value} {fz:Nat×Nat} (h:AvT x W tb) (hT:TapC W B tb ns) (hg:W.grownBy W' (some r)) (hr:W.heap[r]?=some (.cells cs 3 fz)):AvT x W' tb:=by
 obtain ⟨v,hv,h⟩:=h
 have hne:∀ (k:Nat) (cs':Array Value) (e:TypeId) (fz':Nat×Nat),W.heap[k]?=some (.cells cs' e fz')→e≠3→W'.heap[k]?=W.heap[k]?:=fun k cs' e fz' h1 h2=>hg.block k (heap_lt h1) (fun e'=>by cases e';rw [hr] at h1;cases h1;exact h2 rfl)
 refine ⟨v,(hne _ _ _ _ hv (by decide)).trans hv,fun g m c e=>?_⟩
 obtain ⟨hgl,h2⟩:=h g m c e
 refine ⟨Nat.lt_of_lt_of_le hgl hg.size,fun i hi ad m' c' hc=>h2 i hi ad m' c' ?_⟩
 obtain ⟨p,c2,xs,hv2,ho,_,_⟩:=Tap.head hT
 rw [hv] at hv2
 cases hv2
 cases e
 rcases ho.2 with ⟨h0,_⟩|⟨g2,cap2,cur2,hv2,_,hg2,_⟩
 ·cases h0
 ·cases hv2
  unfold World.cell? at hc ⊢
  rw [← hne _ _ _ _ hg2 (by decide)]
  exact hc
/-- A row of nodes of one's own, and where it lies. -/
def OwnL (e:TypeId) (B n:Nat) (xs:List Value) (r:Option Nat) (H:Nat) (v:Value) (W:World):Prop:=OwnN e B n xs v W∧∃ g c,v = .slice (some ⟨g,0,none⟩) n c∧(r=some g∨H≤g)
theorem OwnL.up {e:TypeId} {B n:Nat} {xs:List Value} {r:Option Nat} {H:Nat} {v:Value} {W W':World} (h:OwnL e B n xs r H v W) (hB:Below W.heap.size W W'):OwnL e B n xs r H v W':=⟨OwnN.up h.1 hB,h.2⟩
theorem nodeC:StT Tryz.prog 88 109 80:=⟨Tryz.underlying88,by kernel_rfl⟩
/-- append of one node that a literal holds, and where the row lies then. -/
theorem appL {P:Program} {t e:TypeId} {b:Nat} (T:StT P t e b) (hb:b≤128) (ty:TypeId) (W:World) (B:Nat) (v:Value) (n:Nat) (xs:List Value) (ho:W.ownsRow B e 6 v n xs) (g:Nat) (u:List Value) (hg:W.heap[g]?=some (.cells u.toArray e (0,0))) (hu:u.length=6) (h1:∀ x∈u,x.oneCell'=true) (hn:n+1≤1073741824) (hB:B≤W.heap.size):
  ∃ g' cap w',(Builtin.append_ #[t,t] ty #[v,.slice (some ⟨g,0,none⟩) 1 1]).run P W = .ok (.slice (some ⟨g',0,none⟩) (n+1) cap) w'∧w'.ownsRow B e 6 (.slice (some ⟨g',0,none⟩) (n+1) cap) (n+1) (xs++u)∧W.grownBy w' v.ownBlock∧(v.ownBlock=some g'∨g'=W.heap.size):=by
 have hi:=T.hi
 cases h:P.info? e with
 | none=>rw [h] at hi;cases hi
 | some i=>
  rw [h] at hi
  simp only [Option.map_some,Option.some.injEq,Prod.mk.injEq] at hi
  obtain ⟨hz,hs,hby⟩:=hi
  cases hz0:i.zero with
  | none=>rw [hz0] at hz;cases hz
  | some z=>
   rw [hz0] at hz
   simp only [Option.map_some,Option.some.injEq] at hz
   have hm:(n+1)*b≤1073741824*128:=Nat.mul_le_mul hn hb
   obtain ⟨g',cap,w',hr,h2,h3,h4,_⟩:=run_append_lies (P:=P) W t ty B e i z 6 b T.ht h hz0 hs hby hz (by decide) v n xs ho ⟨g,0,none⟩ 1 1 u (by omega) (fun j x hj=>by
    rw [addr_plus,Nat.zero_add]
    unfold World.cell?
    simpa [hg] using hj) h1 (by omega) (by unfold maxLen;omega) (by omega) hB _ rfl
   exact ⟨g',cap,w',hr,h2,h3,h4⟩
theorem cnew_any (w:World):Calls Tryz.prog 21 #[] w fun e w'=>∃ b,e = .returned (.pointer (some ⟨b,0,none⟩))∧TapC w' w.heap.size b []∧Below w.heap.size w w':=by
 go_enter Tryz.func21,Tryz.ntmps21
 go_wp2
 exact bodyPost_ret (v:=.pointer (some ⟨w.heap.size,0,none⟩)) (by simp [results,Tryz.results21,go_sem]) rfl ⟨_,rfl,Tap.new (Nat.le_refl _),up_alloc _ _⟩
theorem cfull_any (B tb:Nat) (ns:List Nd) (q:Bool) (hq:decide (512≤ns.length)=q) (w:World) (hT:TapC w B tb ns):Calls Tryz.prog 96 #[.pointer (some ⟨tb,0,none⟩)] w fun e w'=>e = .returned (.bool q)∧w'=w:=by
 have hTT:Hid (TapC w B tb ns):=hT
 obtain ⟨pL,cL,xs0,hv,ho,hn0,hnc⟩:=Tap.head hT
 obtain ⟨N,eN⟩:∃ N,ns.length=N:=⟨_,rfl⟩
 rw [eN] at hv ho hnc
 have hcell:=(head_cell hv).1
 have hz:=heap_lt hv
 rw [eN] at hq
 have hq2:decide ((512:Int)≤(N:Int))=q:=by rw [← hq];exact decide_eq_decide.2 (by omega)
 clear hT hTT hv ho hn0 hnc eN
 go_enter Tryz.func96,Tryz.ntmps96
 go_wp2
 go_ret
 exact ⟨rfl,rfl⟩
theorem chas_any (B tb:Nat) (ns:List Nd) (i:Int) (q:Bool) (hq:decide (0≤i∧i < (ns.length:Int))=q) (w:World) (hT:TapC w B tb ns):Calls Tryz.prog 70 #[.pointer (some ⟨tb,0,none⟩),.int .i64 i] w fun e w'=>e = .returned (.bool q)∧w'=w:=by
 have hTT:Hid (TapC w B tb ns):=hT
 obtain ⟨pL,cL,xs0,hv,ho,hn0,hnc⟩:=Tap.head hT
 obtain ⟨N,eN⟩:∃ N,ns.length=N:=⟨_,rfl⟩
 rw [eN] at hv ho hnc
 have hcell:=(head_cell hv).1
 have hz:=heap_lt hv
 rw [eN] at hq
 clear hT hTT hv ho hn0 hnc eN
 by_cases h0:i < 0
 ·have hq':q=false:=by rw [← hq];exact decide_eq_false (by omega)
  subst hq'
  have d1:decide (0≤i)=false:=decide_eq_false (by omega)
  clear hq h0
  go_enter Tryz.func70,Tryz.ntmps70
  go_wp2
  go_ret
  exact ⟨rfl,rfl⟩
 ·have d1:decide (0≤i)=true:=decide_eq_true (by omega)
  have d2:decide (i < (N:Int))=q:=by rw [← hq];exact decide_eq_decide.2 (by omega)
  clear hq h0
  go_enter Tryz.func70,Tryz.ntmps70
  go_wp2
  go_ret
  exact ⟨rfl,rfl⟩
theorem chasb_any (op:Int) (q:Bool) (hq:decide (twoP op)=q) (w:World):
  Calls Tryz.prog 99 #[.int .i64 op] w fun e w'=>e = .returned (.bool q)∧w'=w:=by
 by_cases h2:op=2
 ·subst h2
  have hq':q=true:=by rw [← hq];decide
  subst hq'
  clear hq
  go_enter Tryz.func99,Tryz.ntmps99
  go_wp2
  go_ret
  exact ⟨rfl,rfl⟩
 by_cases h3:op=3
 ·subst h3
  have hq':q=true:=by rw [← hq];decide
  subst hq'
  clear hq
  go_enter Tryz.func99,Tryz.ntmps99
  go_wp2
  go_ret
  exact ⟨rfl,rfl⟩
 by_cases h4:op=4
 ·subst h4
  have hq':q=true:=by rw [← hq];decide
  subst hq'
  clear hq
  go_enter Tryz.func99,Tryz.ntmps99
  go_wp2
  go_ret
  exact ⟨rfl,rfl⟩
 by_cases h6:op=6
 ·subst h6
  have hq':q=true:=by rw [← hq];decide
  subst hq'
  clear hq
  go_enter Tryz.func99,Tryz.ntmps99
  go_wp2
  go_ret
  exact ⟨rfl,rfl⟩
 by_cases h12:op=12
 ·subst h12
  have hq':q=true:=by rw [← hq];decide
  subst hq'
  clear hq
  go_enter Tryz.func99,Tryz.ntmps99
  go_wp2
  go_ret
  exact ⟨rfl,rfl⟩
 have g2:(op==2)=false:=by simpa using h2
 have g3:(op==3)=false:=by simpa using h3
 have g4:(op==4)=false:=by simpa using h4
 have g6:(op==6)=false:=by simpa using h6
 have g12:(op==12)=false:=by simpa using h12
 have hq':q=false:=by rw [← hq];exact decide_eq_false (by omega)
 subst hq'
 clear hq h2 h3 h4 h6 h12
 go_enter Tryz.func99,Tryz.ntmps99
 go_wp2
 go_ret
 exact ⟨rfl,rfl⟩
theorem chask_any (op:Int) (q:Bool) (hq:decide (byP op)=q) (w:World):
  Calls Tryz.prog 100 #[.int .i64 op] w fun e w'=>e = .returned (.bool q)∧w'=w:=by
 by_cases h5:op=5
 ·subst h5
  have hq':q=true:=by rw [← hq];decide
  subst hq'
  clear hq
  go_enter Tryz.func100,Tryz.ntmps100
  go_wp2
  go_ret
  exact ⟨rfl,rfl⟩
 by_cases h8:op=8
 ·subst h8
  have hq':q=true:=by rw [← hq];decide
  subst hq'
  clear hq
  go_enter Tryz.func100,Tryz.ntmps100
  go_wp2
  go_ret
  exact ⟨rfl,rfl⟩
 by_cases h11:op=11
 ·subst h11
  have hq':q=true:=by rw [← hq];decide
  subst hq'
  clear hq
  go_enter Tryz.func100,Tryz.ntmps100
  go_wp2
  go_ret
  exact ⟨rfl,rfl⟩
 by_cases h12:op=12
 ·subst h12
  have hq':q=true:=by rw [← hq];decide
  subst hq'
  clear hq
  go_enter Tryz.func100,Tryz.ntmps100
  go_wp2
  go_ret
  exact ⟨rfl,rfl⟩
 by_cases h13:op=13
 ·subst h13
  have hq':q=true:=by rw [← hq];decide
  subst hq'
  clear hq
  go_enter Tryz.func100,Tryz.ntmps100
  go_wp2
  go_ret
  exact ⟨rfl,rfl⟩
 have g5:(op==5)=false:=by simpa using h5
 have g8:(op==8)=false:=by simpa using h8
 have g11:(op==11)=false:=by simpa using h11
 have g12:(op==12)=false:=by simpa using h12
 have g13:(op==13)=false:=by simpa using h13
 have hq':q=false:=by rw [← hq];exact decide_eq_false (by omega)
 subst hq'
 clear hq h5 h8 h11 h12 h13
 go_enter Tryz.func100,Tryz.ntmps100
 go_wp2
 go_ret
 exact ⟨rfl,rfl⟩
theorem below_two {B:Nat} {a b c:World} (h:Below B a b) (h2:Below B b c):Below B a c:=h.trans h2
theorem ccopied_any (p p2:Option Addr) (n c n2 c2:Nat) (dd yy:List Int) (hg:isP dd yy) (w:World) (h1:Nums .i64 w (.slice p n c) dd) (h2:Nums .i64 w (.slice p2 n2 c2) yy):
  Calls Tryz.prog 71 #[.agg #[.slice p n c,.slice p2 n2 c2]] w fun e w'=>∃ v,e = .returned v∧TRes w' w.heap.size v dd yy∧Below w.heap.size w w':=by
 have hl1:dd.length≤1073741824:=by have:=hg.1.1;rw [ntl_len] at this;omega
 have hl2:yy.length≤1073741824:=by have h3:=hg.1.2.2;have h4:=hg.2;omega
 have CI:Hid (∀ W,Below w.heap.size w W→Calls Tryz.prog 75 #[.slice p n c] W fun e w'=>∃ v',e = .returned v'∧OwnK .i64 3 w' W.heap.size v' dd∧Below W.heap.size W w'):=fun W hW=>cloneI_any _ dd (by omega) W (h1.up hW)
 have CF:Hid (∀ W,Below w.heap.size w W→Calls Tryz.prog 91 #[.slice p2 n2 c2] W fun e w'=>∃ v',e = .returned v'∧OwnK .i64 23 w' W.heap.size v' yy∧Below W.heap.size W w'):=fun W hW=>cloneF_any _ yy (by omega) W (h2.up hW)
 haveI:Nonempty World:=⟨w⟩
 clear h1 h2 hl1 hl2 hg
 go_enter Tryz.func71,Tryz.ntmps71
 go_wp2_with fail
 generalize hW0:World.alloc _ _=W0
 have HB0:=hidB (w:=w) hW0 (by go_grown)
 have XA:Hid (Cel W0 w.heap.size (.slice p n c) (.slice p2 n2 c2)):=celW hW0 (by simp [go_sem])
 have XR:Hid (Cel W0 (w.heap.size+1) (.slice none 0 0) (.slice none 0 0)):=celW hW0 (by simp [go_sem])
 clear hW0
 obtain ⟨a0,a1,_,_⟩:=XA.out
 have k0:=cell_lt a0
 refine rel [⟨2,5,fun v W=>OwnK .i64 3 W W0.heap.size v dd⟩,⟨5,8,fun v W=>OwnK .i64 23 W W0.heap.size v yy⟩,⟨6,9,OwnT W0.heap.size dd yy⟩] 7 10 (by kernel_rfl) rfl rfl (by kernel_rfl) (by rfl) ?_ ?_
 ·intro e he v W W' h hb
  simp only [List.mem_cons,List.not_mem_nil,or_false] at he
  rcases he with rfl|rfl|rfl
  ·exact OwnK.up h hb
  ·exact OwnK.up h hb
  ·exact OwnT.up h hb
 apply Exists.intro
 refine ⟨fun x=>?_,?_,?_⟩
 ·simp only [List.take_succ_cons,List.take_zero]
  iterate 2
   refine relQuiet rfl rfl ?_
   apply Exists.intro
   refine ⟨fun F hF hf K hK=>?_,?_⟩
   ·have hFc:=hF.cell
    have hFf:=hF.frozen
    go_big_quiet_op
    exact hK
   (try simp only [putL])
  refine relTold rfl rfl ?_ ?_
  ·intro F hF hf d
   have hFc:=hF.cell
   have hFf:=hF.frozen
   simp [yieldsR,yieldsUpon,go_sem]
   refine (CI.out (F d) (bstep HB0.out (hF.below d))).mono ?_
   rintro e' w8 ⟨v8,rfl,h8,hb8⟩
   exact ⟨_,rfl,h8.low (hF.below d).size,hb8⟩
  iterate 2
   (try simp only [putL])
   refine relQuiet rfl rfl ?_
   apply Exists.intro
   refine ⟨fun F hF hf K hK=>?_,?_⟩
   ·have hFc:=hF.cell
    have hFf:=hF.frozen
    go_big_quiet_op
    exact hK
  (try simp only [putL])
  refine relTold rfl rfl ?_ ?_
  ·intro F hF hf d
   have hFc:=hF.cell
   have hFf:=hF.frozen
   simp [yieldsR,yieldsUpon,go_sem]
   refine (CF.out (F d) (bstep HB0.out (hF.below d))).mono ?_
   rintro e' w8 ⟨v8,rfl,h8,hb8⟩
   exact ⟨_,rfl,h8.low (hF.below d).size,hb8⟩
  (try simp only [putL])
  refine relTold rfl rfl ?_ ?_
  ·intro F hF hf d
   have hFc:=hF.cell
   have hFf:=hF.frozen
   have h9:OwnK .i64 3 (F d) W0.heap.size (x 2) dd:=hf _ List.mem_cons_self (by rfl) d
   have h8:OwnK .i64 23 (F d) W0.heap.size (x 5) yy:=hf _ (List.mem_cons_of_mem _ List.mem_cons_self) (by rfl) d
   obtain ⟨p9,n9,c9,e9⟩:=h9.form_
   obtain ⟨p8,n8,c8,e8⟩:=h8.form_
   rw [e9] at h9
   rw [e8] at h8
   simp [yieldsR,yieldsUpon,go_sem,e9,e8]
   exact ⟨⟨_,_,_,_,_,_,rfl,h9,h8⟩,Below.refl _ _⟩
  (try simp only [putL])
  refine relEnd ?_
  exact rfl
 ·exact fun x=>rfl
 ·intro w1 xs hB1 hf
  simp only [List.drop_succ_cons,List.drop_zero]
  have hT1:=hf _ (List.mem_cons_of_mem _ (List.mem_cons_of_mem _ List.mem_cons_self))
  obtain ⟨x2,e2⟩:∃ q,xs 2=q:=⟨_,rfl⟩
  obtain ⟨x5,e5⟩:∃ q,xs 5=q:=⟨_,rfl⟩
  obtain ⟨x6,e6⟩:∃ q,xs 6=q:=⟨_,rfl⟩
  simp only [e6] at hT1
  simp only [e2,e5,e6]
  obtain ⟨pa,na,ca,pb,nb,cb,rfl,hs,ht⟩:=hT1
  clear e2 e5 e6 hf CI CF a0 a1 k0
  obtain ⟨HF,r0,r1,r2,r3,z0,z1⟩:=fin2 XR HB0 hB1 hs ht (by omega)
  clear hs ht
  go_wp2
  exact bodyPost_ret (v:=.agg #[.slice pa na ca,.slice pb nb cb]) (by simp [results,Tryz.results71,go_sem,z0,z1]) rfl ⟨_,rfl,HF.out⟩
theorem ckeep_sp (B tb:Nat) (ns:List Nd) (nd:Nd) (pa pb:Option Addr) (na ca nb cb:Nat) (hroom:ns.length < 512) (w:World) (hT:TapC w B tb ns) (hs:OwnK .i64 3 w B (.slice pa na ca) nd.D) (ht:OwnK .i64 23 w B (.slice pb nb cb) nd.X):
  Calls Tryz.prog 98 #[.pointer (some ⟨tb,0,none⟩),.agg #[.int .i64 nd.op,.int .i64 nd.a,.int .i64 nd.b,.int .i64 nd.k,.slice pa na ca,.slice pb nb cb]] w fun e w'=>e = .returned (.int .i64 (ns.length:Int))∧TapC w' B tb (ns++[nd])∧Below B w w'∧Only SC w w'∧Spare tb w w'∧∀ H,OwnK .i64 3 w H (.slice pa na ca) nd.D→SpA H tb w w':=by
 obtain ⟨op,a,bb,k,D,X⟩:=nd
 have hTT:Hid (TapC w B tb ns):=hT
 obtain ⟨pL,cL,xs0,hv,ho,hn0,hnc⟩:=Tap.head hT
 obtain ⟨N,eN⟩:∃ N,ns.length=N:=⟨_,rfl⟩
 rw [eN] at hv ho hnc
 have hcell:=(head_cell hv).1
 have hz:=heap_lt hv
 rw [eN]
 have hl:Hid (N < 512):=by show _ < _;rw [← eN];exact hroom
 have HBB:Hid (B≤w.heap.size):=Nat.le_trans hTT.out.1 (Nat.le_of_lt hz)
 have HS:Hid (OwnK .i64 3 w B (.slice pa na ca) D∧OwnK .i64 23 w B (.slice pb nb cb) X):=⟨hs,ht⟩
 clear hT hv ho hn0 hnc hs ht hroom hcell hz cL xs0 pL
 go_enter Tryz.func98,Tryz.ntmps98
 go_wp2_with fail
 refine name_world (fun w6 hw6=>?_)
 have HN6:w6.heap[w.heap.size]?=some (.cells #[.int .i64 op,.int .i64 a,.int .i64 bb,.int .i64 k,.slice pa na ca,.slice pb nb cb] 109 (0,0)):=by rw [hw6];exact heap_alloc_new _ _
 have HB6a:Below w.heap.size w w6:=by rw [hw6];exact up_alloc _ _
 have HB6:Hid (Below B w w6∧B≤w6.heap.size∧Only SC w w6∧Spare tb w w6∧Below w.heap.size w w6):=⟨HB6a.mono HBB.out,Nat.le_trans HBB.out HB6a.size,Only.of HB6a,Spare.of HB6a,HB6a⟩
 have HND6:Hid (NdC w6 B ⟨op,a,bb,k,D,X⟩ [.int .i64 op,.int .i64 a,.int .i64 bb,.int .i64 k,.slice pa na ca,.slice pb nb cb]):=⟨_,_,rfl,HS.out.1.up HB6a,HS.out.2.up HB6a⟩
 have HT6:=hTT.out.up HB6a
 obtain ⟨pL,cL,xs0,hv,ho,hn0,hnc⟩:=Tap.head HT6
 rw [eN] at hv ho
 have HTP:Hid (B≤tb∧w6.heap[tb]?=some (.cells #[.slice pL N cL] 90 (0,0))∧ns.length=N∧w6.ownsRow B 109 6 (.slice pL N cL) N xs0∧NdsC w6 B ns xs0):=⟨hTT.out.1,hv,eN,ho,hn0⟩
 have hrow:∀ z,Value.ownBlock (.slice pL N cL)=some z→z < w.heap.size:=fun z hz'=>by
  have h3:=hTT.out
  obtain ⟨pL',cL',xs',hv',ho',_,_⟩:=Tap.head h3
  rw [eN] at hv' ho'
  have h4:=HB6a.block tb (heap_lt hv')
  rw [hv,hv'] at h4
  cases h4
  exact (World.ownsRow.lt ho' z hz').2
 have HX6:Hid (w6.heap[w.heap.size]?=some (.cells #[.int .i64 op,.int .i64 a,.int .i64 bb,.int .i64 k,.slice pa na ca,.slice pb nb cb] 109 (0,0))∧some w.heap.size≠Value.ownBlock (.slice pL N cL)):=⟨HN6,fun h=>by have:=hrow _ h.symm;omega⟩
 have HRW:Hid (∀ z,Value.ownBlock (.slice pL N cL)=some z→z < w6.heap.size):=fun z hz'=>Nat.lt_of_lt_of_le (hrow z hz') HB6a.size
 have HU1:Hid (∀ z∈([.int .i64 op,.int .i64 a,.int .i64 bb,.int .i64 k,.slice pa na ca,.slice pb nb cb]:List Value),z.oneCell'=true):=HND6.out.one
 clear hv ho hn0 hnc hrow hw6 HT6 HB6a HN6 HS
 refine from_region (by kernel_rfl) ?_
 refine seg (fun q W=>match q with|false=>Below w6.heap.size w6 W|true=>w6.grownBy W (Value.ownBlock (.slice pL N cL))) (fun W W'=>W.grownBy W' (Value.ownBlock (.slice pL N cL))) 7 [⟨6,11,LitS 109 w6.heap.size [.int .i64 op,.int .i64 a,.int .i64 bb,.int .i64 k,.slice pa na ca,.slice pb nb cb]⟩,⟨7,12,OwnL 109 B (N+1) (xs0++[.int .i64 op,.int .i64 a,.int .i64 bb,.int .i64 k,.slice pa na ca,.slice pb nb cb]) (Value.ownBlock (.slice pL N cL)) w6.heap.size⟩] 0 10 21 rfl rfl (by kernel_rfl) (by rfl) ?_ ?_ ?_ ?_ ?_ ?_
 ·intro q W W' h hb
  cases q
  ·exact bstep h hb
  ·exact grown_up h hb
 ·exact ⟨rfl,rfl,rfl,Nat.le_refl _,fun _ _=>rfl⟩
 ·exact .inl ⟨_,List.mem_cons_of_mem _ List.mem_cons_self,rfl⟩
 ·intro e he v W W' h hb
  simp only [List.mem_cons,List.not_mem_nil,or_false] at he
  rcases he with rfl|rfl
  ·exact LitS.up h hb
  ·exact OwnL.up h hb
 ·intro e he hne v W W' h hc ht
  simp only [List.mem_cons,List.not_mem_nil,or_false] at he
  rcases he with rfl|rfl
  ·exact LitS.grown h ht HRW.out
  ·exact absurd rfl hne
 apply Exists.intro
 refine ⟨fun x=>?_,?_,?_⟩
 ·simp only [List.drop_succ_cons,List.drop_zero,List.take_succ_cons,List.take_zero]
  iterate 4
   refine segQuiet rfl rfl ?_
   apply Exists.intro
   refine ⟨fun b F hF hf K hK=>?_,?_⟩
   ·have hFc:=hF.cls
    go_big_quiet_op
    exact hK
   (try simp only [putL])
  refine segQuiet rfl rfl ?_
  apply Exists.intro
  refine ⟨fun b F hF hf K hK=>?_,?_⟩
  ·have hFc:=hF.cls
   have q0:∀ d,(F d).cell? ⟨tb,0,none⟩=some (.slice pL N cL):=fun d=>by
    have hK:w6.grownBy (F d) (Value.ownBlock (.slice pL N cL)):=by
     cases b
     ·exact below_grown _ (hFc d)
     ·exact hFc d
    exact hK.cell (head_cell HTP.out.2.1).1 (Ne.symm (owned_off ne_ct HTP.out.2.1 HTP.out.2.2.2.1))
   clear hFc
   go_big_quiet_op
   exact hK
  (try simp only [putL])
  refine segQuiet rfl rfl ?_
  apply Exists.intro
  refine ⟨fun b F hF hf K hK=>?_,?_⟩
  ·have hFc:=hF.cls
   have q0:∀ d,(F d).heap[w.heap.size]?=some (.cells #[.int .i64 op,.int .i64 a,.int .i64 bb,.int .i64 k,.slice pa na ca,.slice pb nb cb] 109 (0,0)):=fun d=>by
    have hK:w6.grownBy (F d) (Value.ownBlock (.slice pL N cL)):=by
     cases b
     ·exact below_grown _ (hFc d)
     ·exact hFc d
    rw [hK.block _ (heap_lt HX6.out.1) HX6.out.2]
    exact HX6.out.1
   have q1:=fun d=>(box6 (q0 d)).1.1
   have q2:=fun d=>(box6 (q0 d)).1.2.1
   have q3:=fun d=>(box6 (q0 d)).1.2.2.1
   have q4:=fun d=>(box6 (q0 d)).1.2.2.2.1
   have q5:=fun d=>(box6 (q0 d)).1.2.2.2.2.1
   have q6:=fun d=>(box6 (q0 d)).1.2.2.2.2.2
   clear hFc q0
   go_big_quiet_op
   exact hK
  (try simp only [putL])
  refine segTold rfl (by decide) rfl ?_ ?_
  ·intro b F hF hf d
   have hFc:=hF.cls
   have hcls:w6.heap.size≤(F d).heap.size:=by
    cases b
    ·exact (hFc d).size
    ·exact (hFc d).size
   simp [yieldsR,yieldsUpon,go_sem]
   exact ⟨⟨(F d).heap.size,rfl,heap_alloc_new (F d) _,hcls⟩,up_alloc _ _⟩
  (try simp only [putL])
  refine segBusy rfl rfl rfl ?_ ?_
  ·intro W hW hf
   have h7:=hf _ List.mem_cons_self (by rfl) W
   obtain ⟨g7,e7,hg7,_⟩:=h7
   simp only [] at e7
   obtain ⟨g8,c8,w8,hr8,ho8,hgr8,hat8⟩:=appL nodeC (by decide) 88 W B (.slice pL N cL) N xs0 (owns_only (S:=[]) HTP.out.2.2.2.1 (Only.of hW) (by simp)) g7 [.int .i64 op,.int .i64 a,.int .i64 bb,.int .i64 k,.slice pa na ca,.slice pb nb cb] hg7 rfl HU1.out (by have:=hl.out;omega) (Nat.le_trans HTP.out.1 (Nat.le_trans (Nat.le_of_lt (heap_lt HTP.out.2.1)) (Below.size hW)))
   simp [leavesR,leavesUpon,execOp,resolve,invoke,builtin,Act.eval,e7,hr8,Result.andThen]
   exact ⟨⟨ho8,g8,c8,rfl,hat8.imp id fun e=>by rw [e];exact Below.size hW⟩,grown_trans (below_grown _ hW) hgr8,hgr8⟩
  iterate 2
   (try simp only [putL])
   refine segQuiet rfl rfl ?_
   apply Exists.intro
   refine ⟨fun b F hF hf K hK=>?_,?_⟩
   ·have hFc:=hF.cls
    go_big_quiet_op
    exact hK
  (try simp only [putL])
  refine segEnd ?_
  exact rfl
 ·exact fun x=>rfl
 ·intro w8 xs8 hC8 hf8
  have hC8':w6.grownBy w8 (Value.ownBlock (.slice pL N cL)):=hC8
  refine from_list 10 (by kernel_rfl) ?_
  simp only [List.drop_succ_cons,List.drop_zero]
  have h8:=hf8 _ (List.mem_cons_of_mem _ List.mem_cons_self)
  obtain ⟨x6,e6⟩:∃ z,xs8 6=z:=⟨_,rfl⟩
  obtain ⟨x7,e7⟩:∃ z,xs8 7=z:=⟨_,rfl⟩
  simp only [e7] at h8
  simp only [e6,e7]
  obtain ⟨h8,g8,c8,rfl,hat8⟩:=h8
  obtain ⟨hTp,hOn⟩:=Tap.push (TT:=90) (NT:=109) ne_ct (by decide) (by decide) (nd:=⟨op,a,bb,k,D,X⟩) HTP.out.1 HTP.out.2.1 (by rw [HTP.out.2.2.1];exact HTP.out.2.2.2.1) HTP.out.2.2.2.2 HND6.out hC8' (by rw [HTP.out.2.2.1];exact h8)
  have hv8:w8.heap[tb]?=some (.cells #[.slice pL N cL] 90 (0,0)):=by
   rw [hC8'.block tb (heap_lt HTP.out.2.1) (Ne.symm (owned_off ne_ct HTP.out.2.1 HTP.out.2.2.2.1))]
   exact HTP.out.2.1
  obtain ⟨r0,r1⟩:=head_cell hv8
  have z0:=(head_cell (v:=.slice (some ⟨g8,0,none⟩) (N+1) c8) (e:=90) (W:=w8.setCell ⟨tb,0,none⟩ (.slice (some ⟨g8,0,none⟩) (N+1) c8)) (by rw [heap_setat hv8];rfl)).1
  have HF:Hid (TapC (w8.setCell ⟨tb,0,none⟩ (.slice (some ⟨g8,0,none⟩) (N+1) c8)) B tb (ns++[⟨op,a,bb,k,D,X⟩])∧Below B w (w8.setCell ⟨tb,0,none⟩ (.slice (some ⟨g8,0,none⟩) (N+1) c8))∧Only SC w (w8.setCell ⟨tb,0,none⟩ (.slice (some ⟨g8,0,none⟩) (N+1) c8))∧Spare tb w (w8.setCell ⟨tb,0,none⟩ (.slice (some ⟨g8,0,none⟩) (N+1) c8))∧∀ H,OwnK .i64 3 w H (.slice pa na ca) D→SpA H tb w (w8.setCell ⟨tb,0,none⟩ (.slice (some ⟨g8,0,none⟩) (N+1) c8))):=by
   refine ⟨hTp,(Below.grown HB6.out.1 hC8' HB6.out.2.1 (OwnN_block HTP.out.2.2.2.1)).setCell (p:=⟨tb,0,none⟩) HTP.out.1 _,HB6.out.2.2.1.trans hOn,HB6.out.2.2.2.1.trans ?_,fun H hH x hx ha=>av_push HTP.out.2.1 HTP.out.2.2.2.1 (by rw [HTP.out.2.2.2.2.1,HTP.out.2.2.1]) hv8 h8 rfl (own_avoid hH hx) (ha.up HB6.out.2.2.2.2)⟩
   intro x v hv hn hx ho
   rw [HTP.out.2.1] at hv
   cases hv
   refine ⟨?_,_,(heap_setat hv8).trans rfl,?_⟩
   ·rw [heap_set _ _ _ _ _ hn]
    exact hC8'.block x hx (Ne.symm ho)
   ·intro e
    have e':g8=x:=by simpa [Value.ownBlock] using e
    rcases hat8 with h|h
    ·exact ho (by rw [h,e'])
    ·omega
  clear hTp hOn hC8 hC8' h8 hf8 hv8 hat8
  have hN1:((N+1:Nat):Int) - 1=(N:Int):=by omega
  have hN2:wrap64 (N:Int)=(N:Int):=by have:=hl.out;unfold wrap64;omega
  go_wp2
  exact bodyPost_ret (v:=.int .i64 (N:Int)) (by simp [results,Tryz.results98,go_sem,hN1,hN2]) rfl ⟨rfl,HF.out⟩
theorem cleaf_full (B tb:Nat) (ns:List Nd) (p p2:Option Addr) (n c n2 c2:Nat) (dd yy:List Int) (hd:RI dd) (w:World) (hT:TapC w B tb ns) (h1:Nums .i64 w (.slice p n c) dd) (h2:Nums .i64 w (.slice p2 n2 c2) yy) (hfull:512≤ns.length):
  Calls Tryz.prog 82 #[.pointer (some ⟨tb,0,none⟩),.agg #[.slice p n c,.slice p2 n2 c2]] w fun e w'=>e = .returned (.tuple #[.int .i64 (leafR ns dd yy),.int .i64 (leafE ns dd yy)])∧TapC w' B tb (leafN ns dd yy)∧Below B w w'∧Only SC w w'∧Spar2 tb w w':=by
 have HBB:Hid (B≤w.heap.size):=Nat.le_trans hT.1 (Nat.le_of_lt (by obtain ⟨_,_,_,hv,_⟩:=Tap.head hT;exact heap_lt hv))
 have hTT:Hid (TapC w B tb ns):=hT
 have HN:Hid (Nums .i64 w (.slice p n c) dd∧Nums .i64 w (.slice p2 n2 c2) yy∧RI dd):=⟨h1,h2,hd⟩
 have hf:decide (512≤ns.length)=true:=decide_eq_true hfull
 have e1:leafE ns dd yy=2:=if_pos hfull
 have e2:leafR ns dd yy=0:=if_neg fun h=>by omega
 have e3:leafN ns dd yy=ns:=if_neg fun h=>by omega
 rw [e1,e2,e3]
 clear hT e1 e2 e3 h1 h2 hd hfull
 go_enter Tryz.func82,Tryz.ntmps82
 go_wp2_with fail
 generalize hW0:World.alloc _ _=W0
 have HB0:=hidB (w:=w) hW0 (by go_grown)
 have XA:Hid (Cel W0 w.heap.size (.slice p n c) (.slice p2 n2 c2)):=celW hW0 (by simp [go_sem])
 clear hW0
 refine (cfull_any B tb ns true hf W0 (hTT.out.up HB0.out)).mono ?_
 rintro e w1 ⟨rfl,ew1⟩
 subst ew1
 clear hf
 go_wp2
 exact bodyPost_ret (v:=.tuple #[.int .i64 0,.int .i64 2]) (by simp [results,Tryz.results82,go_sem]) rfl ⟨rfl,hTT.out.up HB0.out,HB0.out.mono HBB.out,Only.of HB0.out,Spar2.of HB0.out⟩
theorem cleaf_bad (B tb:Nat) (ns:List Nd) (p p2:Option Addr) (n c n2 c2:Nat) (dd yy:List Int) (hd:RI dd) (w:World) (hT:TapC w B tb ns) (h1:Nums .i64 w (.slice p n c) dd) (h2:Nums .i64 w (.slice p2 n2 c2) yy) (hroom:ns.length < 512) (hp:¬ isP dd yy):
  Calls Tryz.prog 82 #[.pointer (some ⟨tb,0,none⟩),.agg #[.slice p n c,.slice p2 n2 c2]] w fun e w'=>e = .returned (.tuple #[.int .i64 (leafR ns dd yy),.int .i64 (leafE ns dd yy)])∧TapC w' B tb (leafN ns dd yy)∧Below B w w'∧Only SC w w'∧Spar2 tb w w':=by
 have HBB:Hid (B≤w.heap.size):=Nat.le_trans hT.1 (Nat.le_of_lt (by obtain ⟨_,_,_,hv,_⟩:=Tap.head hT;exact heap_lt hv))
 have hTT:Hid (TapC w B tb ns):=hT
 have HN:Hid (Nums .i64 w (.slice p n c) dd∧Nums .i64 w (.slice p2 n2 c2) yy∧RI dd):=⟨h1,h2,hd⟩
 have hf:decide (512≤ns.length)=false:=decide_eq_false (by omega)
 have hq:decide (isP dd yy)=false:=decide_eq_false hp
 have e1:leafE ns dd yy=1:=(if_neg (by omega)).trans (if_neg hp)
 have e2:leafR ns dd yy=0:=if_neg fun h=>hp h.2
 have e3:leafN ns dd yy=ns:=if_neg fun h=>hp h.2
 rw [e1,e2,e3]
 clear hT e1 e2 e3 h1 h2 hd hroom hp
 go_enter Tryz.func82,Tryz.ntmps82
 go_wp2_with fail
 generalize hW0:World.alloc _ _=W0
 have HB0:=hidB (w:=w) hW0 (by go_grown)
 have XA:Hid (Cel W0 w.heap.size (.slice p n c) (.slice p2 n2 c2)):=celW hW0 (by simp [go_sem])
 clear hW0
 refine (cfull_any B tb ns false hf W0 (hTT.out.up HB0.out)).mono ?_
 rintro e w1 ⟨rfl,ew1⟩
 subst ew1
 clear hf
 obtain ⟨a0,a1,_,_⟩:=XA.out
 have k0:=cell_lt a0
 go_wp2_with fail
 refine (tgood_any (.slice p n c) (.slice p2 n2 c2) dd yy HN.out.2.2 w1 (HN.out.1.up HB0.out) (HN.out.2.1.up HB0.out)).mono ?_
 rintro e w2 ⟨rfl,hB2⟩
 rw [hq]
 have HB2:=hid2 (bstep HB0.out hB2) hB2
 clear hB2
 clear hq
 go_wp2
 exact bodyPost_ret (v:=.tuple #[.int .i64 0,.int .i64 1]) (by simp [results,Tryz.results82,go_sem]) rfl ⟨rfl,hTT.out.up HB2.out.1,HB2.out.1.mono HBB.out,Only.of HB2.out.1,Spar2.of HB2.out.1⟩
theorem cleaf_good (B tb:Nat) (ns:List Nd) (p p2:Option Addr) (n c n2 c2:Nat) (dd yy:List Int) (hd:RI dd) (w:World) (hT:TapC w B tb ns) (h1:Nums .i64 w (.slice p n c) dd) (h2:Nums .i64 w (.slice p2 n2 c2) yy) (hroom:ns.length < 512) (hp:isP dd yy):
  Calls Tryz.prog 82 #[.pointer (some ⟨tb,0,none⟩),.agg #[.slice p n c,.slice p2 n2 c2]] w fun e w'=>e = .returned (.tuple #[.int .i64 (leafR ns dd yy),.int .i64 (leafE ns dd yy)])∧TapC w' B tb (leafN ns dd yy)∧Below B w w'∧Only SC w w'∧Spar2 tb w w':=by
 have HBB:Hid (B≤w.heap.size):=Nat.le_trans hT.1 (Nat.le_of_lt (by obtain ⟨_,_,_,hv,_⟩:=Tap.head hT;exact heap_lt hv))
 have hTT:Hid (TapC w B tb ns):=hT
 have HN:Hid (Nums .i64 w (.slice p n c) dd∧Nums .i64 w (.slice p2 n2 c2) yy∧RI dd):=⟨h1,h2,hd⟩
 have hf:decide (512≤ns.length)=false:=decide_eq_false (by omega)
 have hq:decide (isP dd yy)=true:=decide_eq_true hp
 have HP:Hid (isP dd yy∧ns.length < 512):=⟨hp,hroom⟩
 have e1:leafE ns dd yy=0:=(if_neg (by omega)).trans (if_pos hp)
 have e2:leafR ns dd yy=(ns.length:Int):=if_pos ⟨hroom,hp⟩
 have e3:leafN ns dd yy=ns++[⟨1,-1,-1,0,dd,yy⟩]:=if_pos ⟨hroom,hp⟩
 rw [e1,e2,e3]
 clear hT e1 e2 e3 h1 h2 hd hroom hp
 go_enter Tryz.func82,Tryz.ntmps82
 go_wp2_with fail
 generalize hW0:World.alloc _ _=W0
 have HB0:=hidB (w:=w) hW0 (by go_grown)
 have XA:Hid (Cel W0 w.heap.size (.slice p n c) (.slice p2 n2 c2)):=celW hW0 (by simp [go_sem])
 clear hW0
 refine (cfull_any B tb ns false hf W0 (hTT.out.up HB0.out)).mono ?_
 rintro e w1 ⟨rfl,ew1⟩
 subst ew1
 clear hf
 obtain ⟨a0,a1,_,_⟩:=XA.out
 have k0:=cell_lt a0
 go_wp2_with fail
 refine (tgood_any (.slice p n c) (.slice p2 n2 c2) dd yy HN.out.2.2 w1 (HN.out.1.up HB0.out) (HN.out.2.1.up HB0.out)).mono ?_
 rintro e w2 ⟨rfl,hB2⟩
 rw [hq]
 have HB2:=hid2 (bstep HB0.out hB2) hB2
 clear hB2
 clear hq
 replace a0:=cell_low a0 HB2.out.2
 replace a1:=cell_low a1 HB2.out.2
 replace k0:=cell_lt a0
 go_wp2_with fail
 refine (ccopied_any p p2 n c n2 c2 dd yy HP.out.1 w2 (HN.out.1.up HB2.out.1) (HN.out.2.1.up HB2.out.1)).mono ?_
 rintro e w3 ⟨v3,rfl,⟨s3,t3,rfl,hs,ht⟩,hB3⟩
 obtain ⟨pa,na,ca,rfl⟩:=hs.form_
 obtain ⟨pb,nb,cb,rfl⟩:=ht.form_
 have HB3:Hid (Below w.heap.size w w3):=bstep HB2.out.1 hB3
 have HO:Hid (OwnK .i64 3 w3 B (.slice pa na ca) dd∧OwnK .i64 23 w3 B (.slice pb nb cb) yy∧OwnK .i64 3 w3 w.heap.size (.slice pa na ca) dd):=⟨hs.low (Nat.le_trans HBB.out HB2.out.1.size),ht.low (Nat.le_trans HBB.out HB2.out.1.size),hs.low HB2.out.1.size⟩
 clear hs ht hB3 a0 a1 k0
 go_wp2_with fail
 refine (ckeep_sp B tb ns ⟨1,-1,-1,0,dd,yy⟩ pa pb na ca nb cb HP.out.2 w3 (hTT.out.up HB3.out) HO.out.1 HO.out.2.1).mono ?_
 rintro e w4 ⟨rfl,hT4,hB4,hO4,hS4⟩
 have HF:Hid (TapC w4 B tb (ns++[⟨1,-1,-1,0,dd,yy⟩])∧Below B w w4∧Only SC w w4∧Spar2 tb w w4):=⟨hT4,below_two (HB3.out.mono HBB.out) hB4,(Only.of HB3.out).trans hO4,Spar2.kept HB3.out hS4 HO.out.2.2⟩
 clear hT4 hB4 hO4 hS4 HO
 go_wp2
 exact bodyPost_ret (v:=.tuple #[.int .i64 (ns.length:Int),.int .i64 0]) (by simp [results,Tryz.results82,go_sem]) rfl ⟨rfl,HF.out⟩
theorem cleaf_sp (B tb:Nat) (ns:List Nd) (hG:NodesG ns) (p p2:Option Addr) (n c n2 c2:Nat) (dd yy:List Int) (hd:RI dd) (hy:RI yy) (w:World) (hT:TapC w B tb ns) (h1:Nums .i64 w (.slice p n c) dd) (h2:Nums .i64 w (.slice p2 n2 c2) yy):
  Calls Tryz.prog 82 #[.pointer (some ⟨tb,0,none⟩),.agg #[.slice p n c,.slice p2 n2 c2]] w fun e w'=>e = .returned (.tuple #[.int .i64 (leafR ns dd yy),.int .i64 (leafE ns dd yy)])∧TapC w' B tb (leafN ns dd yy)∧Below B w w'∧Only SC w w'∧Spar2 tb w w':=by
 by_cases hf:512≤ns.length
 ·exact cleaf_full B tb ns p p2 n c n2 c2 dd yy hd w hT h1 h2 hf
 ·by_cases hp:isP dd yy
  ·exact cleaf_good B tb ns p p2 n c n2 c2 dd yy hd w hT h1 h2 (by omega) hp
  ·exact cleaf_bad B tb ns p p2 n c n2 c2 dd yy hd w hT h1 h2 (by omega) hp
theorem NodesG.lyF {ns sts:List Nd} (h:NodesG ns) (hx:∀ i,RI (stA sts i).X):∀ i,NodesG (lyF sts ns i).2.1
 | 0=>h
 | i+1=>by
  show NodesG (if (Wd.lyF sts ns i).1=0 then (lsE (Wd.lyF sts ns i).2.1 (stA sts i),lsN (Wd.lyF sts ns i).2.1 (stA sts i),lsR (Wd.lyF sts ns i).2.1 (stA sts i)) else Wd.lyF sts ns i).2.1
  split
  ·exact (NodesG.lyF h hx i).ls (hx i)
  ·exact NodesG.lyF h hx i
theorem NodesG.lo {ns sts:List Nd} {e:Int} (h:NodesG ns) (hx:∀ i,RI (stA sts i).X):NodesG (loN e ns sts):=by
 unfold loN
 split
 ·unfold lyM
  split
  ·exact NodesG.lyF h hx _
  ·exact h
 ·exact h
theorem sqS_X {N o:Int} {y:List Int} (hy:RI y):∀ i,RI (stA (sqS N o y) i).X
 | 0=>hy
 | 1=>RI_nil
 | 2=>RI_nil
 | 3=>RI_nil
 | _+4=>RI_nil
theorem szS_X {N o:Int} {y:List Int} (hy:RI y):∀ i,RI (stA (szS N o y) i).X
 | 0=>hy
 | 1=>RI_nil
 | 2=>RI_nil
 | 3=>RI_nil
 | _+4=>RI_nil
theorem RI_butV {m:Nat} {a c t:Int} (ha:InR a) (ht:InR t):RI (butV m a c t):=fun y hy=>by
 rcases List.mem_or_eq_of_mem_set hy with h|h
 ·rw [(List.mem_replicate.1 h).2]
  exact ha
 ·rw [h]
  exact ht
theorem hgS_X {N o:Int} {n:Nat} {c:Int}:∀ i,RI (stA (hgS N o n c) i).X
 | 0=>RI_butV (by unfold InR;omega) (by unfold InR;omega)
 | 1=>RI_butV (by unfold InR;omega) (by unfold InR;omega)
 | 2=>RI_nil
 | 3=>RI_nil
 | 4=>RI_nil
 | 5=>RI_nil
 | 6=>RI_nil
 | 7=>RI_nil
 | 8=>RI_nil
 | _+9=>RI_nil
/-- Two tapes that share no block. -/
def Apart (W:World) (tb ub:Nat):Prop:=tb≠ub∧∃ v v',W.heap[tb]?=some (.cells #[v] 90 (0,0))∧W.heap[ub]?=some (.cells #[v'] 90 (0,0))∧v.ownBlock≠some ub∧v'.ownBlock≠some tb∧∀ g,v.ownBlock=some g→v'.ownBlock≠some g
theorem Apart.up {W W':World} {tb ub:Nat} (h:Apart W tb ub) (hB:Below W.heap.size W W'):Apart W' tb ub:=by
 obtain ⟨h1,v,v',h2,h3,h4⟩:=h
 exact ⟨h1,v,v',(hB.block _ (heap_lt h2)).trans h2,(hB.block _ (heap_lt h3)).trans h3,h4⟩
/-- Two tapes of a law's own. -/
structure Two (w W:World) (Bt tb:Nat) (ms:List Nd) (Bu ub:Nat) (us:List Nd):Prop where
 t:TapC W Bt tb ms
 u:TapC W Bu ub us
 a:Apart W tb ub
 b:Below w.heap.size w W
 lt:w.heap.size≤Bt
 lu:w.heap.size≤Bu
theorem Two.up {w W W':World} {Bt tb Bu ub:Nat} {ms us:List Nd} (h:Two w W Bt tb ms Bu ub us) (hB:Below W.heap.size W W'):Two w W' Bt tb ms Bu ub us:=⟨h.t.up hB,h.u.up hB,h.a.up hB,bstep h.b hB,h.lt,h.lu⟩
/-- A box that holds a tensor of one number. -/
def VBox (W:World) (b:Nat) (A:Int):Prop:=∃ s g c,W.heap[b]?=some (.cells #[s,.slice (some ⟨g,0,none⟩) 1 c] 64 (0,0))∧W.cell? ⟨g,0,none⟩=some (.int .i64 A)
theorem VBox.up {W W':World} {b:Nat} {A:Int} (h:VBox W b A) (hB:Below W.heap.size W W'):VBox W' b A:=by
 obtain ⟨s,g,c,h1,h2⟩:=h
 exact ⟨s,g,c,(hB.block _ (heap_lt h1)).trans h1,cell_low h2 hB⟩
theorem VBox.cells {W:World} {b:Nat} {A:Int} (h:VBox W b A):∃ g c,W.cell? ⟨b,1,none⟩=some (.slice (some ⟨g,0,none⟩) 1 c)∧W.cell? ⟨g,0,none⟩=some (.int .i64 A)∧b < W.heap.size∧g < W.heap.size:=by
 obtain ⟨s,g,c,h1,h2⟩:=h
 exact ⟨g,c,by unfold World.cell?;simp [h1],h2,heap_lt h1,cell_lt h2⟩
theorem VBox.new {W:World} {B g c:Nat} {s:Value} {A:Int} (h:OwnK .i64 23 W B (.slice (some ⟨g,0,none⟩) 1 c) [A]):VBox (W.alloc (.cells #[s,.slice (some ⟨g,0,none⟩) 1 c] 64)) W.heap.size A:=
 ⟨s,g,c,heap_alloc_new _ _,cell_low (h.cell rfl 0 (by decide)).1 (up_alloc _ _)⟩
end Go.Proofs.YtjlofobnmjompaaGreatDoor.Wd
