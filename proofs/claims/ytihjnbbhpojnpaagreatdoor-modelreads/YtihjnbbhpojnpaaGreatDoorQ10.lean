/- Tensors: what tens.eachOnce and tens.Tur -/
import Derived.Test.YtihjnbbhpojnpaaGreatDoorQ09
set_option linter.unusedVariables false
set_option linter.unusedSimpArgs false
set_option maxHeartbeats 16000000
set_option maxRecDepth 16000
namespace Go.Proofs.YtihjnbbhpojnpaaGreatDoor.Wd
open Go.RowKit
/-- An order names each of n places once. -/
abbrev ordP (o:List Int) (n:Nat):Prop:=o.length=n∧(∀ k,k < n→0≤o.getD k 0∧o.getD k 0 < (n:Int))∧∀ i,i < n→∀ k,k < n→o.getD i 0=o.getD k 0→i=k
/-- The same, of the first m. -/
def ordK (o:List Int) (n m:Nat):Prop:=(∀ k,k < m→0≤o.getD k 0∧o.getD k 0 < (n:Int))∧∀ i,i < m→∀ k,k < m→o.getD i 0=o.getD k 0→i=k
theorem ordK_zero (o:List Int) (n:Nat):ordK o n 0:=⟨fun k h=>by omega,fun i h=>by omega⟩
theorem ordK_full {o:List Int} {n:Nat} (hl:o.length=n) (h:ordK o n n):ordP o n:=⟨hl,h.1,h.2⟩
theorem ordK_succ {o:List Int} {n m:Nat} (h:ordK o n m) (hr:0≤o.getD m 0∧o.getD m 0 < (n:Int)) (hn:∀ i,i < m→o.getD i 0≠o.getD m 0):ordK o n (m+1):=by
 refine ⟨fun k hk=>?_,fun i hi k hk e=>?_⟩
 ·rcases Nat.lt_succ_iff_lt_or_eq.1 hk with h'|rfl
  ·exact h.1 k h'
  ·exact hr
 ·rcases Nat.lt_succ_iff_lt_or_eq.1 hi with h1|rfl
  ·rcases Nat.lt_succ_iff_lt_or_eq.1 hk with h2|rfl
   ·exact h.2 i h1 k h2 e
   ·exact absurd e (hn i h1)
  ·rcases Nat.lt_succ_iff_lt_or_eq.1 hk with h2|rfl
   ·exact absurd e.symm (hn k h2)
   ·rfl
/-- Those that the first k name. -/
def namedL (o:List Int) (n:Nat):Nat→List Bool
 | 0=>List.replicate n false
 | k+1=>(namedL o n k).set (o.getD k 0).toNat true
theorem namedL_len (o:List Int) (n:Nat):∀ k,(namedL o n k).length=n
 | 0=>by simp [namedL]
 | k+1=>by rw [namedL,List.length_set,namedL_len o n k]
theorem namedL_get {o:List Int} {n:Nat} (j:Nat) (hj:j < n):∀ k,(∀ i,i < k→0≤o.getD i 0)→((namedL o n k).getD j false=true↔∃ i,i < k∧o.getD i 0=(j:Int))
 | 0,_=>by
  rw [namedL,getD_lt _ _ _ (by simp;exact hj),List.getElem_replicate]
  constructor
  ·intro h;cases h
  ·rintro ⟨i,h,_⟩;omega
 | k+1,h=>by
  have ih:=namedL_get j hj k fun i hi=>h i (by omega)
  have h0:=h k (by omega)
  rw [namedL,List.getD_eq_getElem?_getD,List.getElem?_set,namedL_len]
  by_cases e:(o.getD k 0).toNat=j
  ·rw [if_pos e,if_pos (by omega)]
   refine ⟨fun _=>⟨k,by omega,by omega⟩,fun _=>rfl⟩
  ·rw [if_neg e,← List.getD_eq_getElem?_getD,ih]
   constructor
   ·rintro ⟨i,h1,h2⟩
    exact ⟨i,by omega,h2⟩
   ·rintro ⟨i,h1,h2⟩
    rcases Nat.lt_succ_iff_lt_or_eq.1 h1 with h3|rfl
    ·exact ⟨i,h3,h2⟩
    ·exact absurd (by omega) e
def bvals (l:List Bool):List Value:=l.map Value.bool
/-- A slice of bools of the call's own. -/
def OwnB (W:World) (B:Nat) (v:Value) (l:List Bool):Prop:=W.ownsRow B 4 1 v l.length (bvals l)
theorem OwnB.cell {W:World} {B g n c:Nat} {l:List Bool} (h:OwnB W B (.slice (some ⟨g,0,none⟩) n c) l) (hn:l.length=n) (j:Nat) (hj:j < n):W.cell? ⟨g,j,none⟩=some (.bool (l.getD j false))∧W.frozen? ⟨g,j,none⟩=false:=by
 subst hn
 refine ⟨?_,World.ownsRow.frozenAt h j⟩
 rw [World.ownsRow.cellAt h j (by omega)]
 unfold bvals
 rw [List.getElem?_map,List.getElem?_eq_getElem hj,List.getD_eq_getElem?_getD,List.getElem?_eq_getElem hj]
 rfl
theorem OwnB.store {W:World} {B g n c:Nat} {l:List Bool} (h:OwnB W B (.slice (some ⟨g,0,none⟩) n c) l) (hn:l.length=n) (j:Nat) (x:Bool):OwnB (W.setCell ⟨g,j,none⟩ (.bool x)) B (.slice (some ⟨g,0,none⟩) n c) (l.set j x):=by
 subst hn
 have:=(World.ownsRow.stored h j (.bool x)).1
 unfold OwnB
 rw [List.length_set,show bvals (l.set j x)=(bvals l).set j (.bool x) by unfold bvals;rw [List.map_set]]
 exact this
theorem infoB:∃ i0,Tryz.prog.info? 4=some i0∧i0.zero=some (.bool false)∧i0.size=1∧i0.bytes=1:=by
 have h:(Tryz.prog.info? 4).map (fun i=>(i.zero,i.size,i.bytes))=some (some (.bool false),1,1):=by kernel_rfl
 cases h0:Tryz.prog.info? 4 with
 | none=>rw [h0] at h;cases h
 | some i=>
  rw [h0] at h
  simp only [Option.map_some,Option.some.injEq,Prod.mk.injEq] at h
  exact ⟨i,rfl,h.1,h.2.1,h.2.2⟩
theorem own_made {W:World} {B g n:Nat} (h:W.ownsRow B 4 1 (.slice (some ⟨g,0,none⟩) n n) n (madeCells (Value.bool false).cells (n*1)).toList):Hid (OwnB W B (.slice (some ⟨g,0,none⟩) n n) (List.replicate n false)):=by
 show OwnB _ _ _ _
 unfold OwnB bvals
 rw [List.length_replicate,List.map_replicate]
 have e1:(madeCells (Value.bool false).cells (n*1)).toList=List.replicate n (Value.bool false):=by
  rw [Nat.mul_one]
  exact toList_madeCells_one _ _
 rw [e1] at h
 exact h
theorem once_any (v:Value) (o:List Int) (ho:RI o) (n:Nat) (hn:n≤4) (w:World) (hv:Nums .i64 w v o):
  Calls Tryz.prog 138 #[v,.int .i64 (n:Int)] w fun e w'=>e = .returned (.bool (decide (ordP o n)))∧Below w.heap.size w w':=by
 obtain ⟨p,m,c,rfl,HO⟩:=hv.lst
 obtain ⟨r,er⟩:∃ r:Bool,decide (ordP o n)=r:=⟨_,rfl⟩
 have HR:Hid (decide (ordP o n)=r∧RI o∧o.length=m):=⟨er,ho,HO.out.1⟩
 rw [er]
 clear er hv ho
 have hn':(n:Int)≤4:=by omega
 by_cases hmn:m=n
 ·subst hmn
  obtain ⟨i0,hi,hz0,hz1,hz2⟩:=infoB
  go_enter Tryz.func138,Tryz.ntmps138
  go_wp2_with (at_make;refine wpList_make_full w rfl (.tmp 12) (.tmp 12) 228 rfl w.heap.size 4 i0 (.bool false) 1 Tryz.underlying228 hi hz0 hz1 .i64 .i64 m m m rfl rfl rfl rfl (by rw [hz2];omega) (by unfold maxLen;omega) (Nat.le_refl _) ?_;intro w1 hown hgrow;have B1:Below w.heap.size w w1:=Below.grown (Below.refl _ _) hgrow (Nat.le_refl _) (fun j hj=>by cases hj);have H1:=own_made hown;clear hown hgrow)
  go_loopg [16] m (fun gg i wr=>∃ (k:Nat),k≤m∧gg=m - k∧i = .int .i64 (k:Int)∧Hid (ordK o m k)∧Hid (OwnB wr w.heap.size (.slice (some ⟨w.heap.size,0,none⟩) m m) (namedL o m k))∧Hid (Below w.heap.size w wr))
  case atStart=>exact ⟨0,by omega,by omega,by first|rfl|simp,ordK_zero _ _,H1,B1⟩
  case round=>
   obtain ⟨k,hk,hg,rfl,HK,HB,hB⟩:=hrel
   by_cases hkn:k < m
   ·have hk':(k:Int) < (m:Int):=by omega
    obtain ⟨q,of,rfl,hc0⟩:=HO.out.2 k hkn
    have hc1:=cell_low hc0 hB.out
    have ry:=HR.out.2.1.at k (by rw [HR.out.2.2];exact hkn)
    obtain ⟨y,ey⟩:∃ y,o.getD k 0=y:=⟨_,rfl⟩
    have Hy:Hid (o.getD k 0=y):=ey
    rw [ey] at hc1 ry
    clear ey hc0
    by_cases hy0:y < 0
    ·go_wp2
     go_ret
     rw [← HR.out.1,decide_eq_false (fun h:ordP o m=>by have:=(h.2.1 k hkn).1;rw [Hy.out] at this;omega)]
     exact ⟨rfl,hB.out⟩
    by_cases hy1:(m:Int)≤y
    ·go_wp2
     go_ret
     rw [← HR.out.1,decide_eq_false (fun h:ordP o m=>by have:=(h.2.1 k hkn).2;rw [Hy.out] at this;omega)]
     exact ⟨rfl,hB.out⟩
    obtain ⟨j,ej⟩:∃ j:Nat,y=(j:Int):=⟨y.toNat,by omega⟩
    subst ej
    have hj:j < m:=by omega
    have hj':(j:Int) < (m:Int):=by omega
    obtain ⟨hown,hfz⟩:=HB.out.cell (namedL_len _ _ _) j hj
    have hN:=namedL_get (o:=o) (n:=m) j hj k fun i hi=>(HK.out.1 i hi).1
    by_cases hb:(namedL o m k).getD j false=true
    ·rw [hb] at hown
     have Hb:Hid (∃ i,i < k∧o.getD i 0=(j:Int)):=hN.1 hb
     clear hb hN
     go_wp2
     go_ret
     rw [← HR.out.1,decide_eq_false (fun h:ordP o m=>by
      obtain ⟨i,h1,h2⟩:=Hb.out
      have:=h.2.2 i (by omega) k hkn (by rw [h2,Hy.out])
      omega)]
     exact ⟨rfl,hB.out⟩
    ·have hbf:(namedL o m k).getD j false=false:=by simpa using hb
     rw [hbf] at hown
     have H2:Hid (OwnB (wr.setCell ⟨w.heap.size,j,none⟩ (.bool true)) w.heap.size (.slice (some ⟨w.heap.size,0,none⟩) m m) (namedL o m (k+1))):=by
      have:=HB.out.store (namedL_len _ _ _) j true
      show OwnB _ _ _ _
      rw [namedL,Hy.out,Int.toNat_natCast]
      exact this
     have HK2:Hid (ordK o m (k+1)):=ordK_succ HK.out (by rw [Hy.out];omega) fun i hi e=>hb (hN.2 ⟨i,hi,by rw [e,Hy.out]⟩)
     have HB2:Hid (Below w.heap.size w (wr.setCell ⟨w.heap.size,j,none⟩ (.bool true))):=hB.out.setCell (p:=⟨w.heap.size,j,none⟩) (Nat.le_refl _) _
     clear hb hbf hN
     go_wp2
     go_roundg (m - (k+1))
     case measure=>omega
     case rel=>exact ⟨k+1,by omega,rfl,by first|rfl|simp,HK2,H2,HB2⟩
   ·obtain rfl:k=m:=by omega
    go_wp2
    go_ret
    rw [← HR.out.1,decide_eq_true (ordK_full HR.out.2.2 HK.out)]
    exact ⟨rfl,hB.out⟩
 ·have hne:((m:Int) != (n:Int))=true:=by simp;omega
  have hne':¬ ((m:Int)=(n:Int)):=by omega
  go_enter Tryz.func138,Tryz.ntmps138
  go_wp2
  go_ret
  rw [← HR.out.1,decide_eq_false (fun h:ordP o n=>hmn (by rw [← HR.out.2.2];exact h.1))]
  exact ⟨rfl,Below.refl _ _⟩
abbrev turnP (d x o:List Int):Prop:=isP d x∧ordP o d.length
def turnE (d x o:List Int):Int:=if turnP d x o then 0 else 1
def turnD (d x o:List Int):List Int:=if turnP d x o then itl (dimsT (ntl d) (ntl o)) else []
def turnV (d x o:List Int):List Int:=if turnP d x o then (List.range (prodN (ntl d))).map fun i=>x.getD (turnI (ntl d) (ntl o) i) 0 else []
theorem turn_none {d x o:List Int} (h:¬ turnP d x o):turnE d x o=1∧turnD d x o = []∧turnV d x o = []:=⟨if_neg h,if_neg h,if_neg h⟩
/-- The sides may change places so. -/
structure Turns (d x o:List Int) (a r:List Nat):Prop where
 da:d=itl a
 dr:o=itl r
 ga:goodN a
 or:orderN a.length r
 lx:x.length=prodN a
theorem turns {d x o:List Int} (h:turnP d x o):∃ a r,Turns d x o a r:=by
 obtain ⟨⟨h1,h2⟩,h3,h4,h5⟩:=h
 obtain ⟨a,ga,rfl⟩:=good_itl h1
 rw [ntl_itl] at h2
 rw [itl_len] at h3 h4 h5
 have hr:o=itl (ntl o):=by
  refine List.ext_getElem (by rw [itl_len,ntl_len]) fun i hi hi2=>?_
  have:=(h4 i (by omega)).1
  rw [← getD_lt o i 0 hi,← getD_lt (itl (ntl o)) i 0 hi2,itl_getD,ntl_getD o i hi]
  omega
 refine ⟨a,ntl o,rfl,hr,ga,?_,h2⟩
 refine order_of (by rw [ntl_len];exact h3) (fun k hk=>?_) fun i k hi hk e=>?_
 ·rw [ntl_getD o k (by omega)]
  have:=h4 k hk
  omega
 ·rw [ntl_getD o i (by omega),ntl_getD o k (by omega)] at e
  have e1:=h4 i hi
  have e2:=h4 k hk
  exact h5 i hi k hk (by omega)
theorem Turns.V {d x o:List Int} {a r:List Nat} (h:Turns d x o a r) (hp:turnP d x o):turnE d x o=0∧turnD d x o=itl (dimsT a r)∧turnV d x o=(List.range (prodN a)).map fun i=>x.getD (turnI a r i) 0:=by
 unfold turnE turnD turnV
 rw [if_pos hp,if_pos hp,if_pos hp,h.da,h.dr,ntl_itl,ntl_itl]
 exact ⟨rfl,rfl,rfl⟩
theorem tturn_any (p p2 p3:Option Addr) (n c n2 c2 n3 c3:Nat) (d x o:List Int) (hd:RI d) (ho:RI o) (w:World) (h1:Nums .i64 w (.slice p n c) d) (h2:Nums .i64 w (.slice p2 n2 c2) x) (h3:Nums .i64 w (.slice p3 n3 c3) o):
  Calls Tryz.prog 113 #[.agg #[.slice p n c,.slice p2 n2 c2],.slice p3 n3 c3] w fun e w'=>∃ v',e = .returned (.tuple #[v',.int .i64 (turnE d x o)])∧TRes w' w.heap.size v' (turnD d x o) (turnV d x o)∧Below w.heap.size w w':=by
 have cA:=fun W (hW:Below w.heap.size w W)=>tgood_any _ _ d x hd W (h1.up hW) (h2.up hW)
 have HN:Hid (Nums .i64 w (.slice p n c) d∧Nums .i64 w (.slice p2 n2 c2) x∧Nums .i64 w (.slice p3 n3 c3) o):=⟨h1,h2,h3⟩
 obtain ⟨_,_,_,e4,HD⟩:=h1.lst
 cases e4
 obtain ⟨_,_,_,e4,HX⟩:=h2.lst
 cases e4
 obtain ⟨_,_,_,e4,HO⟩:=h3.lst
 cases e4
 by_cases hp:isP d x
 ·rw [decide_eq_true hp] at cA
  have hn:n≤4:=by rw [← HD.out.1,← ntl_len d];exact hp.1.1
  have hn':(n:Int)≤4:=by omega
  have cB:=fun W (hW:Below w.heap.size w W)=>once_any _ o ho n hn W (h3.up hW)
  by_cases hq:ordP o n
  ·rw [decide_eq_true hq] at cB
   have ht:turnP d x o:=⟨hp,by rw [HD.out.1];exact hq⟩
   obtain ⟨a,r,hT⟩:=turns ht
   obtain ⟨e1,e2,e3⟩:=hT.V ht
   rw [e1,e2,e3]
   have cS:∀ W,Below w.heap.size w W→Calls Tryz.prog 139 #[.slice p n c] W fun e w'=>∃ v',e = .returned v'∧OwnK .i64 3 w' W.heap.size v' (itl (stridesN a))∧Below W.heap.size W w':=fun W hW=>by
    have:=strides_any _ d hd W (h1.up hW)
    rw [hT.da,show stridesI (itl a)=itl (stridesN a) by unfold stridesI;rw [ntl_itl,if_pos hT.ga]] at this
    exact this
   have ha:a.length=n:=by rw [← HD.out.1,hT.da,itl_len]
   have hr3:n=n3:=by rw [← HO.out.1];exact hq.1.symm
   subst hr3
   obtain ⟨N,eN⟩:∃ N,prodN a=N:=⟨_,rfl⟩
   have hnN:n2=N:=by rw [← HX.out.1,hT.lx,eN]
   subst hnN
   obtain ⟨D,eD⟩:∃ D,itl (dimsT a r)=D:=⟨_,rfl⟩
   obtain ⟨T,eT⟩:∃ T,itl (stepT a r)=T:=⟨_,rfl⟩
   obtain ⟨V,eV⟩:∃ V,((List.range n2).map fun i=>x.getD (turnI a r i) 0)=V:=⟨_,rfl⟩
   have HT:Hid (Turns d x o a r∧a.length=n∧prodN a=n2∧itl (dimsT a r)=D∧itl (stepT a r)=T∧((List.range n2).map fun i=>x.getD (turnI a r i) 0)=V∧D.length=n∧T.length=n∧V.length=n2):=⟨hT,ha,eN,eD,eT,eV,by rw [← eD,itl_len,dimsT_len,hT.or.1,ha],by rw [← eT,itl_len,stepT_len,hT.or.1,ha],by rw [← eV];simp⟩
   have hN:1≤n2∧n2≤4096:=by rw [← eN];exact ⟨hT.ga.pos,hT.ga.2.2⟩
   have hN':1≤(n2:Int)∧(n2:Int)≤4096:=by omega
   rw [eN,eD,eV]
   obtain ⟨MK,eMK⟩:∃ MK,vals .i64 (List.replicate n 0)=MK:=⟨_,rfl⟩
   have HMK:Hid (vals .i64 (List.replicate n 0)=MK):=eMK
   clear e1 e2 e3 hp hq ht h1 h2 h3 hd ho eN eD eT eV hT ha eMK
   go_enter Tryz.func113,Tryz.ntmps113
   go_wp2_with fail
   generalize hW0:World.alloc _ _=W0
   have HB0:=hidB (w:=w) hW0 (by go_grown)
   have XA:Hid (Cel W0 w.heap.size (.slice p n c) (.slice p2 n2 c2)):=celW hW0 (by simp [go_sem])
   have XR:Hid (Cel W0 (w.heap.size+1) (.slice none 0 0) (.slice none 0 0)):=celW hW0 (by simp [go_sem])
   clear hW0
   refine (cA W0 HB0.out).mono ?_
   rintro e w1 ⟨rfl,hB1⟩
   have HB1:=hid2 (bstep HB0.out hB1) hB1
   clear hB1
   clear cA
   obtain ⟨a0,a1,_,_⟩:=XA.out.up HB1.out.2
   go_wp2_with fail
   refine (cB w1 HB1.out.1).mono ?_
   rintro e w2 ⟨rfl,hB2⟩
   have HB2:=hid2 (bstep HB1.out.1 hB2) (bstep HB1.out.2 hB2)
   clear hB2 a0 a1 cB
   obtain ⟨a0,a1,_,_⟩:=XA.out.up HB2.out.2
   go_wp2_with fail
   refine (cS w2 HB2.out.1).mono ?_
   rintro e w3 ⟨vs,rfl,hO3,hB3⟩
   have HB3:=hid2 (bstep HB2.out.1 hB3) (bstep HB2.out.2 hB3)
   have HO3:Hid (OwnK .i64 3 w3 w2.heap.size vs (itl (stridesN a))):=hO3
   clear hB3 hO3 a0 a1 cS
   obtain ⟨a0,a1,_,_⟩:=XA.out.up HB3.out.2
   have hmk:∀ W,(Instr.makeSlice 23 (.int .i64 (n:Int)) (.int .i64 (n:Int))).run Tryz.prog W = .ok (.slice (some ⟨W.heap.size,0,none⟩) n n) (W.alloc (.cells MK.toArray 3)):=fun W=>by rw [← HMK.out];exact make_run numT (by decide) n (by omega) .i64 .i64 W
   go_wp2_with fail
   go_region
   generalize hW4:World.drew _=W4
   obtain ⟨hB4,O1,O2⟩:=two_made (k:=.i64) (e:=3) (w3:=w3) (W4:=W4) (n:=n) (by omega) (by rw [HMK.out];exact hW4)
   obtain ⟨gd,hgd⟩:∃ gd,w3.heap.size=gd:=⟨_,rfl⟩
   obtain ⟨gs,hgs⟩:∃ gs,w3.heap.size+1=gs:=⟨_,rfl⟩
   have HB3W:Hid (Below w3.heap.size w3 W4∧w3.heap.size≤gd∧w3.heap.size≤gs∧gd≠gs):=⟨hB4,by omega,by omega,by omega⟩
   rw [hgs,hgd]
   have HG0:Hid (OwnK .i64 3 W4 w3.heap.size (.slice (some ⟨gd,0,none⟩) n n) (rowF D 0)∧OwnK .i64 3 W4 w3.heap.size (.slice (some ⟨gs,0,none⟩) n n) (rowF T 0)):=by
    rw [rowF_zero,rowF_zero,HT.out.2.2.2.2.2.2.1,HT.out.2.2.2.2.2.2.2.1,← hgd,← hgs]
    exact ⟨O1,O2⟩
   clear hW4 hB4 O1 O2 hgd hgs hmk a0 a1
   rotate_left
   generalize hW4:World.drew _=W4
   obtain ⟨hB4,O1,O2⟩:=two_made (k:=.i64) (e:=3) (w3:=w3) (W4:=W4) (n:=n) (by omega) (by rw [HMK.out];exact hW4)
   obtain ⟨gd,hgd⟩:∃ gd,w3.heap.size+1=gd:=⟨_,rfl⟩
   obtain ⟨gs,hgs⟩:∃ gs,w3.heap.size=gs:=⟨_,rfl⟩
   have HB3W:Hid (Below w3.heap.size w3 W4∧w3.heap.size≤gd∧w3.heap.size≤gs∧gd≠gs):=⟨hB4,by omega,by omega,by omega⟩
   rw [hgd,hgs]
   have HG0:Hid (OwnK .i64 3 W4 w3.heap.size (.slice (some ⟨gd,0,none⟩) n n) (rowF D 0)∧OwnK .i64 3 W4 w3.heap.size (.slice (some ⟨gs,0,none⟩) n n) (rowF T 0)):=by
    rw [rowF_zero,rowF_zero,HT.out.2.2.2.2.2.2.1,HT.out.2.2.2.2.2.2.2.1,← hgd,← hgs]
    exact ⟨O2,O1⟩
   clear hW4 hB4 O1 O2 hgd hgs hmk a0 a1
   all_goals
    go_wp2_with fail
    go_loopg [37] n (fun gg i wr=>∃ (k:Nat),k≤n∧gg=n - k∧i = .int .i64 (k:Int)∧Hid (OwnK .i64 3 wr w3.heap.size (.slice (some ⟨gd,0,none⟩) n n) (rowF D k)∧OwnK .i64 3 wr w3.heap.size (.slice (some ⟨gs,0,none⟩) n n) (rowF T k))∧Hid (Below w3.heap.size w3 wr))
    case atStart=>exact ⟨0,by omega,by omega,by first|rfl|simp,HG0,HB3W.out.1⟩
    case round=>
     obtain ⟨k,hk,hg,rfl,HG,hB⟩:=hrel
     obtain ⟨R1,hR1⟩:∃ R1:World,R1=wr:=⟨_,rfl⟩
     subst hR1
     by_cases hkn:k < n
     ·have hk':(k:Int) < (n:Int):=by omega
      obtain ⟨q3,o3,rfl,hc0⟩:=HO.out.2 k hkn
      have hc1:=cell_low hc0 (bstep HB3.out.1 hB.out)
      have hor:=HT.out.1.or
      rw [HT.out.2.1] at hor
      have hkr:k < r.length:=by rw [hor.1];exact hkn
      rw [HT.out.1.dr,itl_getD] at hc1
      obtain ⟨j,ej⟩:∃ j,r.getD k 0=j:=⟨_,rfl⟩
      have hj:j < n:=by
       rw [← ej,getD_lt r k 0 hkr]
       exact hor.2.1 _ (List.getElem_mem _)
      rw [ej] at hc1
      have hj':(j:Int) < (n:Int):=by omega
      obtain ⟨qd,od,rfl,hd0⟩:=HD.out.2 j hj
      have hd1:=cell_low hd0 (bstep HB3.out.1 hB.out)
      rw [HT.out.1.da,itl_getD] at hd1
      obtain ⟨_,_,_,evs,HSt⟩:=(HO3.out.up hB.out).nums.lst
      subst evs
      have hns:=HSt.out.1
      rw [itl_len,stridesN_len,HT.out.2.1] at hns
      subst hns
      obtain ⟨qt,ot,rfl,hs1⟩:=HSt.out.2 j hj
      rw [itl_getD] at hs1
      obtain ⟨A,eA⟩:∃ A,a.getD j 0=A:=⟨_,rfl⟩
      obtain ⟨S,eS⟩:∃ S,(stridesN a).getD j 0=S:=⟨_,rfl⟩
      rw [eA] at hd1
      rw [eS] at hs1
      have HV2:Hid (D.getD k 0=(A:Int)∧T.getD k 0=(S:Int)):=by
       refine ⟨?_,?_⟩
       ·rw [← HT.out.2.2.2.1,itl_getD,dimsT_get a r k hkr,ej,eA]
       ·rw [← HT.out.2.2.2.2.1,itl_getD,stepT_get a r k hkr,ej,eS]
      obtain ⟨hw1,hf1⟩:=HG.out.1.cell (by rw [rowF_len];exact HT.out.2.2.2.2.2.2.1) k hkn
      obtain ⟨hw2,hf2⟩:=HG.out.2.cell (by rw [rowF_len];exact HT.out.2.2.2.2.2.2.2.1) k hkn
      have hne:=HB3W.out.2.2.2
      have hne':¬ gs=gd:=fun h=>hne h.symm
      have H5:Hid (OwnK .i64 3 ((R1.setCell ⟨gd,k,none⟩ (.int .i64 (A:Int))).setCell ⟨gs,k,none⟩ (.int .i64 (S:Int))) w3.heap.size (.slice (some ⟨gd,0,none⟩) n n) (rowF D (k+1))∧OwnK .i64 3 ((R1.setCell ⟨gd,k,none⟩ (.int .i64 (A:Int))).setCell ⟨gs,k,none⟩ (.int .i64 (S:Int))) w3.heap.size (.slice (some ⟨gs,0,none⟩) n n) (rowF T (k+1))):=by
       have h1:=HG.out.1.store (by rw [rowF_len];exact HT.out.2.2.2.2.2.2.1) k (A:Int)
       rw [← HV2.out.1,rowF_set D k (by rw [HT.out.2.2.2.2.2.2.1];exact hkn),HV2.out.1] at h1
       have h2:=(HG.out.2.stay ((Stay.refl gd R1).set k (.int .i64 (A:Int))) (fun ad n1 c1 e1=>by cases e1;exact fun h=>hne h.symm)).store (by rw [rowF_len];exact HT.out.2.2.2.2.2.2.2.1) k (S:Int)
       rw [← HV2.out.2,rowF_set T k (by rw [HT.out.2.2.2.2.2.2.2.1];exact hkn),HV2.out.2] at h2
       exact ⟨h1.stay ((Stay.refl gs _).set k (.int .i64 (S:Int))) (fun ad n1 c1 e1=>by cases e1;exact hne),h2⟩
      have H6:Hid (Below w3.heap.size w3 ((R1.setCell ⟨gd,k,none⟩ (.int .i64 (A:Int))).setCell ⟨gs,k,none⟩ (.int .i64 (S:Int)))):=(hB.out.setCell (p:=⟨gd,k,none⟩) HB3W.out.2.1 _).setCell (p:=⟨gs,k,none⟩) HB3W.out.2.2.1 _
      obtain ⟨a0,a1,_,_⟩:=XA.out.up (bstep HB3.out.2 hB.out)
      clear hc0 hd0 eA eS ej hor HSt
      have BD:Below ((R1.setCell ⟨gd,k,none⟩ (.int .i64 (A:Int))).setCell ⟨gs,k,none⟩ (.int .i64 (S:Int))).heap.size ((R1.setCell ⟨gd,k,none⟩ (.int .i64 (A:Int))).setCell ⟨gs,k,none⟩ (.int .i64 (S:Int))) ((R1.setCell ⟨gd,k,none⟩ (.int .i64 (A:Int))).setCell ⟨gs,k,none⟩ (.int .i64 (S:Int))).drew:=⟨rfl,rfl,rfl,Nat.le_refl _,fun _ _=>rfl⟩
      have H7:Hid (OwnK .i64 3 ((R1.setCell ⟨gd,k,none⟩ (.int .i64 (A:Int))).setCell ⟨gs,k,none⟩ (.int .i64 (S:Int))).drew w3.heap.size (.slice (some ⟨gd,0,none⟩) n n) (rowF D (k+1))∧OwnK .i64 3 ((R1.setCell ⟨gd,k,none⟩ (.int .i64 (A:Int))).setCell ⟨gs,k,none⟩ (.int .i64 (S:Int))).drew w3.heap.size (.slice (some ⟨gs,0,none⟩) n n) (rowF T (k+1))):=⟨H5.out.1.up BD,H5.out.2.up BD⟩
      have H8:Hid (Below w3.heap.size w3 ((R1.setCell ⟨gd,k,none⟩ (.int .i64 (A:Int))).setCell ⟨gs,k,none⟩ (.int .i64 (S:Int))).drew):=H6.out.trans (BD.mono H6.out.size)
      clear BD H5 H6
      go_wp2_with fail
      go_region
      go_wp2
      go_roundg (n - (k+1))
      case measure=>omega
      case rel=>exact ⟨k+1,by omega,rfl,by first|rfl|simp,H7,H8⟩
     ·obtain rfl:k=n:=by omega
      have hfd:=HG.out.1
      have hft:=HG.out.2
      rw [← HT.out.2.2.2.2.2.2.1,rowF_full,HT.out.2.2.2.2.2.2.1] at hfd
      rw [← HT.out.2.2.2.2.2.2.2.1,rowF_full,HT.out.2.2.2.2.2.2.2.1] at hft
      have HDT:Hid (OwnK .i64 3 R1 w3.heap.size (.slice (some ⟨gd,0,none⟩) k k) D∧OwnK .i64 3 R1 w3.heap.size (.slice (some ⟨gs,0,none⟩) k k) T):=⟨hfd,hft⟩
      have HBR:Hid (Below w.heap.size w R1∧Below W0.heap.size W0 R1):=⟨bstep HB3.out.1 hB.out,bstep HB3.out.2 hB.out⟩
      obtain ⟨a0,a1,_,_⟩:=XA.out.up HBR.out.2
      clear hfd hft
      go_wp2_with (at_make;refine wpList_makeK fixT (by decide) _ rfl (.tmp 60) (.tmp 60) rfl .i64 .i64 n2 n2 n2 rfl rfl rfl rfl (by omega) w.heap.size w HBR.out.1.size HBR.out.1 ?_;intro w6 HO6 B6 B6';clear B6')
      have HB6:=hid2 (bstep HBR.out.1 B6) (bstep HBR.out.2 B6)
      have HD6:Hid (OwnK .i64 3 w6 w3.heap.size (.slice (some ⟨gd,0,none⟩) k k) D∧OwnK .i64 3 w6 w3.heap.size (.slice (some ⟨gs,0,none⟩) k k) T):=⟨HDT.out.1.up B6,HDT.out.2.up B6⟩
      obtain ⟨g,hg⟩:∃ g,R1.heap.size=g:=⟨_,rfl⟩
      have hz:=cell_lt XR.out.1
      have hgd:=HDT.out.1.size
      have Hg:Hid (W0.heap.size≤g∧w.heap.size+1 < W0.heap.size∧W0.heap.size≤w3.heap.size∧gd < g∧g < w6.heap.size):=⟨by rw [← hg];exact HBR.out.2.size,hz,HB3.out.2.size,by rw [← hg];exact hgd,by rw [← hg];exact HO6.out.size⟩
      rw [hg] at HO6 ⊢
      have hor:=HT.out.1.or
      have cW:=walk_any (.slice (some ⟨gd,0,none⟩) k k) (.slice (some ⟨gs,0,none⟩) k k) (dimsT a r) (stepT a r) (good_turn HT.out.1.ga hor) (by rw [dimsT_len,stepT_len]) (stepT_le HT.out.1.ga r) w6 (by rw [HT.out.2.2.2.1];exact HD6.out.1.nums) (by rw [HT.out.2.2.2.2.1];exact HD6.out.2.nums)
      refine cW.mono ?_
      rintro e w7 ⟨vw,rfl,h7,hB7⟩
      obtain ⟨pw,nw,cw,rfl,HL7⟩:=h7.nums.lst
      have hnw:n2=nw:=by rw [← HL7.out.1,itl_len,walkN_len,prodN_turn hor,HT.out.2.2.1]
      subst hnw
      have HS7:Hid (OwnK .i64 3 w7 w6.heap.size (.slice pw n2 cw) (itl (walkN (dimsT a r) (stepT a r)))):=h7
      have HB7:=hid2 (bstep HB6.out.1 hB7) (bstep HB6.out.2 hB7)
      have HO7:Hid (OwnK .i64 46 w7 g (.slice (some ⟨g,0,none⟩) n2 n2) (rowF V 0)):=by
       show OwnK _ _ _ _ _ _
       rw [rowF_zero,HT.out.2.2.2.2.2.2.2.2]
       exact HO6.out.up hB7
      have HX7:Hid (Cel w7 w.heap.size (.slice p k c) (.slice p2 n2 c2)∧Cel w7 (w.heap.size+1) (.slice none 0 0) (.slice none 0 0)):=⟨XA.out.up HB7.out.2,XR.out.up HB7.out.2⟩
      have HD7:Hid (OwnK .i64 3 w7 w3.heap.size (.slice (some ⟨gd,0,none⟩) k k) D):=HD6.out.1.up hB7
      clear cW h7 hB7 HL7 a0 a1 HO6 B6 hg hz hgd hor HDT HD6
      go_wp2_with fail
      go_loopg [66] n2 (fun gg i wr=>∃ (m:Nat),m≤n2∧gg=n2 - m∧i = .int .i64 (m:Int)∧Hid (OwnK .i64 46 wr g (.slice (some ⟨g,0,none⟩) n2 n2) (rowF V m))∧Hid (Below w.heap.size w wr∧Stay g w7 wr))
      case atStart=>exact ⟨0,by omega,by omega,by first|rfl|simp,HO7,HB7.out.1,Stay.refl _ _⟩
      case round=>
       obtain ⟨m,hm,hg,rfl,HRm,hBS⟩:=hrel
       obtain ⟨R2,hR2⟩:∃ R2:World,R2=wr:=⟨_,rfl⟩
       subst hR2
       by_cases hmn:m < n2
       ·have hm':(m:Int) < (n2:Int):=by omega
        obtain ⟨_,_,_,e4,HLs⟩:=(HS7.out.nums.stay hBS.out.2 (HS7.out.off Hg.out.2.2.2.2)).lst
        cases e4
        obtain ⟨qa,oa,rfl,ha1⟩:=HLs.out.2 m hmn
        have hmJ:m < prodN a:=by rw [HT.out.2.2.1];exact hmn
        rw [itl_getD,turn_walk HT.out.1.ga HT.out.1.or m hmJ] at ha1
        have ia:=turnI_lt HT.out.1.ga HT.out.1.or m hmJ
        rw [HT.out.2.2.1] at ia
        obtain ⟨i,ei⟩:∃ i,turnI a r m=i:=⟨_,rfl⟩
        rw [ei] at ha1 ia
        have ia':(i:Int) < (n2:Int):=by omega
        obtain ⟨qx,ox,rfl,hx0⟩:=HX.out.2 i ia
        have hx1:=cell_low hx0 hBS.out.1
        obtain ⟨X,eX⟩:∃ X,x.getD i 0=X:=⟨_,rfl⟩
        rw [eX] at hx1
        have HZ:Hid (V.getD m 0=X):=by
         show _=_
         rw [← HT.out.2.2.2.2.2.1,getD_map_range _ _ _ _ hmn,ei,eX]
        obtain ⟨hown,hfz⟩:=HRm.out.cell (by rw [rowF_len];exact HT.out.2.2.2.2.2.2.2.2) m hmn
        have H5:Hid (OwnK .i64 46 (R2.setCell ⟨g,m,none⟩ (.int .i64 X)) g (.slice (some ⟨g,0,none⟩) n2 n2) (rowF V (m+1))):=by
         have:=HRm.out.store (by rw [rowF_len];exact HT.out.2.2.2.2.2.2.2.2) m X
         rw [← HZ.out,rowF_set V m (by rw [HT.out.2.2.2.2.2.2.2.2];exact hmn)] at this
         rw [← HZ.out]
         exact this
        have hgw:w.heap.size≤g:=by have:=Hg.out;omega
        have H6:Hid (Below w.heap.size w (R2.setCell ⟨g,m,none⟩ (.int .i64 X))∧Stay g w7 (R2.setCell ⟨g,m,none⟩ (.int .i64 X))):=⟨hBS.out.1.setCell (p:=⟨g,m,none⟩) hgw _,hBS.out.2.set _ _⟩
        have hne0:w.heap.size≠g:=by have:=Hg.out;omega
        obtain ⟨a0,a1,_,_⟩:=HX7.out.1.stay hBS.out.2 hne0
        clear eX ei hx0 HLs hne0 hgw hmJ
        go_wp2
        go_roundg (n2 - (m+1))
        case measure=>omega
        case rel=>exact ⟨m+1,by omega,rfl,by first|rfl|simp,H5,H6⟩
       ·obtain rfl:m=n2:=by omega
        have hne1:w.heap.size+1≠g:=by have:=Hg.out;omega
        have HXR:Hid (Cel R2 (w.heap.size+1) (.slice none 0 0) (.slice none 0 0)):=HX7.out.2.stay hBS.out.2 hne1
        have hfin:=HRm.out
        rw [← HT.out.2.2.2.2.2.2.2.2,rowF_full,HT.out.2.2.2.2.2.2.2.2] at hfin
        have hfd:=HD7.out.stay hBS.out.2 (fun ad n1 c1 e1=>by cases e1;have:=Hg.out.2.2.2.1;show gd≠g;omega)
        have HF:Hid (TRes (set2 R2 (w.heap.size+1) (.slice (some ⟨gd,0,none⟩) k k) (.slice (some ⟨g,0,none⟩) m m)) w.heap.size (.agg #[.slice (some ⟨gd,0,none⟩) k k,.slice (some ⟨g,0,none⟩) m m]) D V∧Below w.heap.size w (set2 R2 (w.heap.size+1) (.slice (some ⟨gd,0,none⟩) k k) (.slice (some ⟨g,0,none⟩) m m))):=
         ⟨(TRes.set (hfd.low Hg.out.2.2.1) (hfin.low Hg.out.1) Hg.out.2.1).low HB0.out.size,below_cell hBS.out.1 _ (by omega) _ _⟩
        clear hfin hfd hne1
        have xr:=HXR.out
        have cf:=xr.set (.slice (some ⟨gd,0,none⟩) k k) (.slice (some ⟨g,0,none⟩) m m)
        obtain ⟨r0,r1,r2,r3⟩:=xr
        obtain ⟨y0,y1,_,_⟩:=cf
        go_wp2
        exact bodyPost_ret (v:=.tuple #[.agg #[.slice (some ⟨gd,0,none⟩) k k,.slice (some ⟨g,0,none⟩) m m],.int .i64 0]) (by simp [results,Tryz.results113,go_sem,y0,y1]) rfl ⟨_,rfl,HF.out⟩
  ·rw [decide_eq_false hq] at cB
   obtain ⟨e1,e2,e3⟩:=turn_none (d:=d) (x:=x) (o:=o) fun h=>hq (by rw [← HD.out.1];exact h.2)
   rw [e1,e2,e3]
   clear e1 e2 e3 h1 h2 h3 hd ho hp hq
   go_enter Tryz.func113,Tryz.ntmps113
   go_wp2_with fail
   generalize hW0:World.alloc _ _=W0
   have HB0:=hidB (w:=w) hW0 (by go_grown)
   have XA:Hid (Cel W0 w.heap.size (.slice p n c) (.slice p2 n2 c2)):=celW hW0 (by simp [go_sem])
   have XR:Hid (Cel W0 (w.heap.size+1) (.slice none 0 0) (.slice none 0 0)):=celW hW0 (by simp [go_sem])
   clear hW0
   refine (cA W0 HB0.out).mono ?_
   rintro e w1 ⟨rfl,hB1⟩
   have HB1:=hid2 (bstep HB0.out hB1) hB1
   clear hB1
   clear cA
   obtain ⟨a0,a1,_,_⟩:=XA.out.up HB1.out.2
   go_wp2_with fail
   refine (cB w1 HB1.out.1).mono ?_
   rintro e w2 ⟨rfl,hB2⟩
   have HB2:=hid2 (bstep HB1.out.1 hB2) (bstep HB1.out.2 hB2)
   clear hB2 a0 a1 cB
   have xr:=(XR.out.up HB2.out.2)
   have BF:=below_cell (HB2.out.1) (w.heap.size+1) (by omega) (.slice none 0 0) (.slice none 0 0)
   have cf:=xr.set (.slice none 0 0) (.slice none 0 0)
   obtain ⟨r0,r1,r2,r3⟩:=xr
   obtain ⟨y0,y1,_,_⟩:=cf
   go_wp2
   exact bodyPost_ret (v:=.tuple #[.agg #[.slice none 0 0,.slice none 0 0],.int .i64 1]) (by simp [results,Tryz.results113,go_sem,y0,y1]) rfl ⟨_,rfl,TRes.none _ _,BF⟩
 ·rw [decide_eq_false hp] at cA
  obtain ⟨e1,e2,e3⟩:=turn_none (d:=d) (x:=x) (o:=o) fun h=>hp h.1
  rw [e1,e2,e3]
  clear e1 e2 e3 h1 h2 h3 hd ho hp
  go_enter Tryz.func113,Tryz.ntmps113
  go_wp2_with fail
  generalize hW0:World.alloc _ _=W0
  have HB0:=hidB (w:=w) hW0 (by go_grown)
  have XA:Hid (Cel W0 w.heap.size (.slice p n c) (.slice p2 n2 c2)):=celW hW0 (by simp [go_sem])
  have XR:Hid (Cel W0 (w.heap.size+1) (.slice none 0 0) (.slice none 0 0)):=celW hW0 (by simp [go_sem])
  clear hW0
  refine (cA W0 HB0.out).mono ?_
  rintro e w1 ⟨rfl,hB1⟩
  have HB1:=hid2 (bstep HB0.out hB1) hB1
  clear hB1
  have xr:=(XR.out.up HB1.out.2)
  have BF:=below_cell (HB1.out.1) (w.heap.size+1) (by omega) (.slice none 0 0) (.slice none 0 0)
  have cf:=xr.set (.slice none 0 0) (.slice none 0 0)
  obtain ⟨r0,r1,r2,r3⟩:=xr
  obtain ⟨y0,y1,_,_⟩:=cf
  go_wp2
  exact bodyPost_ret (v:=.tuple #[.agg #[.slice none 0 0,.slice none 0 0],.int .i64 1]) (by simp [results,Tryz.results113,go_sem,y0,y1]) rfl ⟨_,rfl,TRes.none _ _,BF⟩
end Go.Proofs.YtihjnbbhpojnpaaGreatDoor.Wd
namespace Go.Proofs.YtihjnbbhpojnpaaGreatDoor.Wd
open Go.RowKit Fx
/-- A tensor of two sides. -/
theorem is_two {D0 D1:Nat} {x:List Int} (hx:x.length=D0*D1) (h0:1≤D0) (h1:1≤D1) (hl:D0*D1≤4096):isP [(D0:Int),(D1:Int)] x:=by
 have e:prodN [D0,D1]=D0*D1:=by simp [prodN]
 have en:ntl [(D0:Int),(D1:Int)] = [D0,D1]:=ntl_itl [D0,D1]
 unfold isP
 rw [en]
 refine ⟨⟨by simp,fun y hy=>?_,by rw [e];exact hl⟩,by rw [e];exact hx⟩
 simp at hy
 omega
def flE (d x:List Int):Int:=if isP d x then if d.length=2 then 0 else 4 else 1
def flD (d x:List Int):List Int:=if isP d x∧d.length=2 then [d.getD 1 0,d.getD 0 0] else []
def flV (d x:List Int):List Int:=if isP d x∧d.length=2 then flipV (d.getD 0 0).toNat (d.getD 1 0).toNat x else []
/-- The sides but one. -/
def butO (s:Nat) (side:Int):List Int:=(itl (List.range s)).filter fun i=>decide (i≠side)
def lastO (s:Nat) (side:Int):List Int:=butO s side++[side]
theorem butO_succ (s:Nat) (side:Int):butO (s+1) side=butO s side++if (s:Int)=side then [] else [(s:Int)]:=by
 unfold butO itl
 rw [List.range_succ,List.map_append,List.filter_append]
 congr 1
 by_cases h:(s:Int)=side <;> simp [h]
theorem butO_len (s:Nat) (side:Int):(butO s side).length≤s:=by
 have:=List.length_filter_le (fun i=>decide (i≠side)) (itl (List.range s))
 rw [itl_len,List.length_range] at this
 exact this
theorem sideLast_any (s:Nat) (hs:s≤1000) (side:Int) (hr:InR side) (w:World):
  Calls Tryz.prog 114 #[.int .i64 (s:Int),.int .i64 side] w fun e w'=>∃ v',e = .returned v'∧OwnK .i64 3 w' w.heap.size v' (lastO s side)∧Below w.heap.size w w':=by
 have hs':(s:Int)≤1000:=by omega
 obtain ⟨L,eL⟩:∃ L,lastO s side=L:=⟨_,rfl⟩
 have HL:Hid (lastO s side=L):=eL
 rw [eL]
 unfold InR at hr
 clear eL
 go_enter Tryz.func114,Tryz.ntmps114
 go_wp2_with (at_make;refine wpList_make0K numT (by decide) _ rfl (.const (.int .i64 0)) (.tmp 7) rfl .i64 .i64 _ s rfl rfl rfl (by omega) ?_;intro w1 HO1 B1)
 have HB1:Hid (Below w.heap.size w w1):=B1
 clear B1
 go_loopg [5,10] s (fun gg r i wr=>∃ (k:Nat),k≤s∧gg=s - k∧i = .int .i64 (k:Int)∧Hid (OwnK .i64 3 wr w.heap.size r (butO k side))∧Hid (Below w.heap.size w wr))
 case atStart=>exact ⟨0,by omega,by omega,by first|rfl|simp,HO1,HB1⟩
 case round=>
  obtain ⟨k,hk,hg,rfl,HO,hB⟩:=hrel
  obtain ⟨R0,hR0⟩:∃ R0:World,R0=wr:=⟨_,rfl⟩
  subst hR0
  by_cases hkn:k < s
  ·have hk':(k:Int) < (s:Int):=by omega
   by_cases he:(k:Int)=side
   ·subst he
    have hne:((k:Int) != (k:Int))=false:=by simp
    have H7:Hid (OwnK .i64 3 R0 w.heap.size u5 (butO (k+1) (k:Int))):=by
     show OwnK _ _ _ _ _ _
     rw [butO_succ,if_pos rfl,List.append_nil]
     exact HO.out
    go_wp2
    go_roundg (s - (k+1))
    case measure=>omega
    case rel=>exact ⟨k+1,by omega,rfl,by first|rfl|simp,H7,hB⟩
   ·have hne:((k:Int) != side)=true:=by simp [he]
    have H6:Hid (OwnK .i64 3 (R0.alloc (.cells #[.int .i64 (k:Int)] 3)) w.heap.size u5 (butO k side)):=HO.out.up (up_alloc R0 _)
    have H6n:Hid (Nums .i64 (R0.alloc (.cells #[.int .i64 (k:Int)] 3)) (.slice (some ⟨R0.heap.size,0,none⟩) 1 1) [(k:Int)]):=nums_lit (k:=.i64) R0 [(k:Int)] 1 (0,0) rfl
    have H6b:Hid (Below w.heap.size w (R0.alloc (.cells #[.int .i64 (k:Int)] 3))):=blit hB.out _
    have H6l:Hid ((butO k side).length+[(k:Int)].length≤1073741824):=by
     show _≤_
     have:=butO_len k side
     rw [List.length_singleton]
     omega
    go_wp2_with (at_builtin;refine wpList_appendK numT (by decide) rfl (.tmp 16) (.tmp 18) rfl w.heap.size _ _ rfl H6.out _ [(k:Int)] rfl H6n.out H6l.out H6b.out.size w H6b.out ?_;intro v0 w0 H0 B0)
    have H7:Hid (OwnK .i64 3 w0 w.heap.size v0 (butO (k+1) side)):=by
     show OwnK _ _ _ _ _ _
     rw [butO_succ,if_neg he]
     exact H0.out
    go_roundg (s - (k+1))
    case measure=>omega
    case rel=>exact ⟨k+1,by omega,rfl,by first|rfl|simp,H7,B0⟩
  ·obtain rfl:k=s:=by omega
   have H6:Hid (OwnK .i64 3 (R0.alloc (.cells #[.int .i64 side] 3)) w.heap.size u5 (butO k side)):=HO.out.up (up_alloc R0 _)
   have H6n:Hid (Nums .i64 (R0.alloc (.cells #[.int .i64 side] 3)) (.slice (some ⟨R0.heap.size,0,none⟩) 1 1) [side]):=nums_lit (k:=.i64) R0 [side] 1 (0,0) rfl
   have H6b:Hid (Below w.heap.size w (R0.alloc (.cells #[.int .i64 side] 3))):=blit hB.out _
   have H6l:Hid ((butO k side).length+[side].length≤1073741824):=by
    show _≤_
    have:=butO_len k side
    rw [List.length_singleton]
    omega
   go_wp2_with (at_builtin;refine wpList_appendK numT (by decide) rfl (.tmp 21) (.tmp 23) rfl w.heap.size _ _ rfl H6.out _ [side] rfl H6n.out H6l.out H6b.out.size w H6b.out ?_;intro v0 w0 H0 B0)
   go_ret
   exact ⟨_,rfl,by rw [← HL.out];exact H0.out,B0⟩
end Go.Proofs.YtihjnbbhpojnpaaGreatDoor.Wd
