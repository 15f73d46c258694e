/- Tensors: what tens.eachOnce and tens.Tur -/
import Derived.Test.YtcpbhhlepdgdkaaGreatDoorT06
set_option linter.unusedVariables false
set_option linter.unusedSimpArgs false
set_option maxHeartbeats 16000000
set_option maxRecDepth 16000
namespace Go.Proofs.YtcpbhhlepdgdkaaGreatDoor.Wd
open Go.RowKit
/-- An order names each of n places once. -/
abbrev l_f (o:List Int) (n:Nat):Prop:=o.length=n/\(∀ k,k < n->0<=o.getD k 0/\o.getD k 0 < (n:Int))/\∀ i,i < n->∀ k,k < n->o.getD i 0=o.getD k 0->i=k
/-- The same, of the first m. -/
def r_r (o:List Int) (n m:Nat):Prop:=(∀ k,k < m->0<=o.getD k 0/\o.getD k 0 < (n:Int))/\∀ i,i < m->∀ k,k < m->o.getD i 0=o.getD k 0->i=k
theorem l_3 (o:List Int) (n:Nat):r_r o n 0:=⟨fun k h=>by omega,fun i h=>by omega⟩
theorem l_4 {o:List Int} {n:Nat} (D:o.length=n) (h:r_r o n n):l_f o n:=⟨D,h.1,h.2⟩
theorem l_5 {o:List Int} {n m:Nat} (h:r_r o n m) (M:0<=o.getD m 0/\o.getD m 0 < (n:Int)) (I:∀ i,i < m->o.getD i 0≠o.getD m 0):r_r o n (m+1):=by
 refine ⟨fun k D=>?_,fun i J k D e=>?_⟩
 ·rcases Nat.lt_succ_iff_lt_or_eq.1 D with L|rfl
  ·exact h.1 k L
  ·exact M
 ·rcases Nat.lt_succ_iff_lt_or_eq.1 J with H|rfl
  ·rcases Nat.lt_succ_iff_lt_or_eq.1 D with E|rfl
   ·exact h.2 i H k E e
   ·exact absurd e (I i H)
  ·rcases Nat.lt_succ_iff_lt_or_eq.1 D with E|rfl
   ·exact absurd e.symm (I k E)
   ·rfl
/-- Those that the first k name. -/
def c_0 (o:List Int) (n:Nat):Nat->List Bool
 | 0=>List.replicate n false
 | k+1=>(c_0 o n k).set (o.getD k 0).toNat true
theorem d_B (o:List Int) (n:Nat):∀ k,(c_0 o n k).length=n
 | 0=>by simp [c_0]
 | k+1=>by rw [c_0,List.length_set,d_B o n k]
theorem g_n {o:List Int} {n:Nat} (j:Nat) (E:j < n):∀ k,(∀ i,i < k->0<=o.getD i 0)->((c_0 o n k).getD j false=true↔∃ i,i < k/\o.getD i 0=(j:Int))
 | 0,_=>by
  rw [c_0,a_r _ _ _ (by simp;exact E),List.getElem_replicate];constructor
  ·intro h;cases h
  ·rintro ⟨i,h,_⟩;omega
 | k+1,h=>by
  have I:=g_n j E k fun i L=>h i (by omega);have M:=h k (by omega);rw [c_0,List.getD_eq_getElem?_getD,List.getElem?_set,d_B];by_cases e:(o.getD k 0).toNat=j
  ·rw [if_pos e,if_pos (by omega)];refine ⟨fun _=>⟨k,by omega,by omega⟩,fun _=>rfl⟩
  ·rw [if_neg e,<- List.getD_eq_getElem?_getD,I];constructor
   ·rintro ⟨i,H,D⟩;exact ⟨i,by omega,D⟩
   ·rintro ⟨i,H,D⟩;rcases Nat.lt_succ_iff_lt_or_eq.1 H with J|rfl
    ·exact ⟨i,J,D⟩
    ·exact absurd (by omega) e
def k_J (l:List Bool):List Value:=l.map Value.bool
/-- A slice of bools of the call's own. -/
def OwnB (W:World) (B:Nat) (v:Value) (l:List Bool):Prop:=W.ownsRow B 4 1 v l.length (k_J l)
theorem OwnB.cell {W:World} {B g n c:Nat} {l:List Bool} (h:OwnB W B (.slice (some ⟨g,0,none⟩) n c) l) (E:l.length=n) (j:Nat) (D:j < n):W.cell? ⟨g,j,none⟩=some (.bool (l.getD j false))/\W.frozen? ⟨g,j,none⟩=false:=by
 subst E;refine ⟨?_,World.ownsRow.frozenAt h j⟩;rw [World.ownsRow.cellAt h j (by omega)];unfold k_J;rw [List.getElem?_map,List.getElem?_eq_getElem D,List.getD_eq_getElem?_getD,List.getElem?_eq_getElem D];rfl
theorem OwnB.store {W:World} {B g n c:Nat} {l:List Bool} (h:OwnB W B (.slice (some ⟨g,0,none⟩) n c) l) (D:l.length=n) (j:Nat) (x:Bool):OwnB (W.setCell ⟨g,j,none⟩ (.bool x)) B (.slice (some ⟨g,0,none⟩) n c) (l.set j x):=by
 subst D;have:=(World.ownsRow.stored h j (.bool x)).1;unfold OwnB;rw [List.length_set,show k_J (l.set j x)=(k_J l).set j (.bool x) by unfold k_J;rw [List.map_set]];exact this
theorem s_7:∃ D,Tryz.prog.info? 4=some D/\D.zero=some (.bool false)/\D.size=1/\D.bytes=1:=by
 have h:(Tryz.prog.info? 4).map (fun i=>(i.zero,i.size,i.bytes))=some (some (.bool false),1,1):=by kernel_rfl
 cases E:Tryz.prog.info? 4 with
 | none=>rw [E] at h;cases h
 | some i=>
  rw [E] at h;simp only [Option.map_some,Option.some.injEq,Prod.mk.injEq] at h;exact ⟨i,rfl,h.1,h.2.1,h.2.2⟩
theorem o_k {W:World} {B g n:Nat} (h:W.ownsRow B 4 1 (.slice (some ⟨g,0,none⟩) n n) n (madeCells (Value.bool false).cells (n*1)).toList):Hid (OwnB W B (.slice (some ⟨g,0,none⟩) n n) (List.replicate n false)):=by
 show OwnB _ _ _ _;unfold OwnB k_J;rw [List.length_replicate,List.map_replicate]
 have D:(madeCells (Value.bool false).cells (n*1)).toList=List.replicate n (Value.bool false):=by
  rw [Nat.mul_one];exact toList_madeCells_one _ _
 rw [D] at h;exact h
theorem o_l (v:Value) (o:List Int) (ho:RI o) (n:Nat) (hn:n<=4) (w:World) (hv:Nums .i64 w v o):
  Calls Tryz.prog 154 #[v,.int .i64 (n:Int)] w fun e w'=>e = .returned (.bool (decide (l_f o n)))/\Below w.heap.size w w':=by
 obtain ⟨p,m,c,rfl,HO⟩:=hv.lst;obtain ⟨r,er⟩:∃ r:Bool,decide (l_f o n)=r:=⟨_,rfl⟩
 have I:Hid (decide (l_f o n)=r/\RI o/\o.length=m):=⟨er,ho,HO.out.1⟩
 rw [er];clear er hv ho;have ao:(n:Int)<=4:=by omega
 by_cases U:m=n
 ·subst U;obtain ⟨i0,R,ae,af,aa⟩:=s_7;go_enter Tryz.func154,Tryz.ntmps154;go_wp2_with (at_make;refine wpList_make_full w rfl (.tmp 12) (.tmp 12) 103 rfl w.heap.size 4 i0 (.bool false) 1 Tryz.underlying103 R ae af .i64 .i64 m m m rfl rfl rfl rfl (by rw [aa];omega) (by unfold maxLen;omega) (Nat.le_refl _) ?_;intro w1 D H;have B1:Below w.heap.size w w1:=Below.grown (Below.refl _ _) H (Nat.le_refl _) (fun j hj=>by cases hj);have H1:=o_k D;clear D H)
  go_loopg [16] m (fun gg i wr=>∃ (k:Nat),k<=m/\gg=m - k/\i = .int .i64 (k:Int)/\Hid (r_r o m k)/\Hid (OwnB wr w.heap.size (.slice (some ⟨w.heap.size,0,none⟩) m m) (c_0 o m k))/\Hid (Below w.heap.size w wr))
  case atStart=>exact ⟨0,by omega,by omega,by first|rfl|simp,l_3 _ _,H1,B1⟩
  case round=>
   obtain ⟨k,hk,hg,rfl,HK,HB,J⟩:=hrel;by_cases E:k < m
   ·have am:(k:Int) < (m:Int):=by omega
    obtain ⟨q,of,rfl,O⟩:=HO.out.2 k E;have ad:=a_d O J.out;have ry:=I.out.2.1.at k (by rw [I.out.2.2];exact E);obtain ⟨y,ey⟩:∃ y,o.getD k 0=y:=⟨_,rfl⟩
    have L:Hid (o.getD k 0=y):=ey;rw [ey] at ad ry;clear ey O;by_cases ah:y < 0
    ·go_wp2;go_ret;rw [<- I.out.1,decide_eq_false (fun h:l_f o m=>by have:=(h.2.1 k E).1;rw [L.out] at this;omega)];exact ⟨rfl,J.out⟩
    by_cases an:(m:Int)<=y
    ·go_wp2;go_ret;rw [<- I.out.1,decide_eq_false (fun h:l_f o m=>by have:=(h.2.1 k E).2;rw [L.out] at this;omega)];exact ⟨rfl,J.out⟩
    obtain ⟨j,ej⟩:∃ j:Nat,y=(j:Int):=⟨y.toNat,by omega⟩
    subst ej;have hj:j < m:=by omega
    have ai:(j:Int) < (m:Int):=by omega
    obtain ⟨D,ak⟩:=HB.out.cell (d_B _ _ _) j hj;have V:=g_n (o:=o) (n:=m) j hj k fun i R=>(HK.out.1 i R).1;by_cases hb:(c_0 o m k).getD j false=true
    ·rw [hb] at D;have Hb:Hid (∃ i,i < k/\o.getD i 0=(j:Int)):=V.1 hb;clear hb V;go_wp2;go_ret
     rw [<- I.out.1,decide_eq_false (fun h:l_f o m=>by
      obtain ⟨i,h1,h2⟩:=Hb.out;have:=h.2.2 i (by omega) k E (by rw [h2,L.out]);omega)]
     exact ⟨rfl,J.out⟩
    ·have M:(c_0 o m k).getD j false=false:=by simpa using hb
     rw [M] at D
     have H2:Hid (OwnB (wr.setCell ⟨w.heap.size,j,none⟩ (.bool true)) w.heap.size (.slice (some ⟨w.heap.size,0,none⟩) m m) (c_0 o m (k+1))):=by
      have:=HB.out.store (d_B _ _ _) j true;show OwnB _ _ _ _;rw [c_0,L.out,Int.toNat_natCast];exact this
     have ab:Hid (r_r o m (k+1)):=l_5 HK.out (by rw [L.out];omega) fun i R e=>hb (V.2 ⟨i,R,by rw [e,L.out]⟩);have ac:Hid (Below w.heap.size w (wr.setCell ⟨w.heap.size,j,none⟩ (.bool true))):=J.out.setCell (p:=⟨w.heap.size,j,none⟩) (Nat.le_refl _) _;clear hb M V;go_wp2;go_roundg (m - (k+1))
     case measure=>omega
     case rel=>exact ⟨k+1,by omega,rfl,by first|rfl|simp,ab,H2,ac⟩
   ·obtain rfl:k=m:=by omega
    go_wp2;go_ret;rw [<- I.out.1,decide_eq_true (l_4 I.out.2.2 HK.out)];exact ⟨rfl,J.out⟩
 ·have aj:((m:Int) != (n:Int))=true:=by simp;omega
  have ag:¬ ((m:Int)=(n:Int)):=by omega
  go_enter Tryz.func154,Tryz.ntmps154;go_wp2;go_ret;rw [<- I.out.1,decide_eq_false (fun h:l_f o n=>U (by rw [<- I.out.2.2];exact h.1))];exact ⟨rfl,Below.refl _ _⟩
abbrev f_5 (d x o:List Int):Prop:=isP d x/\l_f o d.length
def h_Z (d x o:List Int):Int:=if f_5 d x o then 0 else 1
def g_4 (d x o:List Int):List Int:=if f_5 d x o then itl (c_d (ntl d) (ntl o)) else []
def e_P (d x o:List Int):List Int:=if f_5 d x o then (List.range (a_e (ntl d))).map fun i=>x.getD (f_m (ntl d) (ntl o) i) 0 else []
theorem h_0 {d x o:List Int} (h:¬ f_5 d x o):h_Z d x o=1/\g_4 d x o = []/\e_P d x o = []:=⟨if_neg h,if_neg h,if_neg h⟩
/-- The sides may change places so. -/
structure Turns (d x o:List Int) (a r:List Nat):Prop where
 da:d=itl a
 dr:o=itl r
 ga:goodN a
 or:d_M a.length r
 lx:x.length=a_e a
theorem s_8 {d x o:List Int} (h:f_5 d x o):∃ a r,Turns d x o a r:=by
 obtain ⟨⟨U,L⟩,M,D,J⟩:=h;obtain ⟨a,O,rfl⟩:=b_n U;rw [a_p] at L;rw [a_v] at M D J
 have R:o=itl (ntl o):=by
  refine List.ext_getElem (by rw [a_v,a_Q]) fun i E I=>?_;have:=(D i (by omega)).1;rw [<- a_r o i 0 E,<- a_r (itl (ntl o)) i 0 I,a_O,d_5 o i E];omega
 refine ⟨a,ntl o,rfl,R,O,?_,L⟩;refine n_P (by rw [a_Q];exact M) (fun k H=>?_) fun i k E H e=>?_
 ·rw [d_5 o k (by omega)];have:=D k H;omega
 ·rw [d_5 o i (by omega),d_5 o k (by omega)] at e;have V:=D i E;have e2:=D k H;exact J i E k H (by omega)
theorem Turns.V {d x o:List Int} {a r:List Nat} (h:Turns d x o a r) (D:f_5 d x o):h_Z d x o=0/\g_4 d x o=itl (c_d a r)/\e_P d x o=(List.range (a_e a)).map fun i=>x.getD (f_m a r i) 0:=by
 unfold h_Z g_4 e_P;rw [if_pos D,if_pos D,if_pos D,h.da,h.dr,a_p,a_p];exact ⟨rfl,rfl,rfl⟩
theorem l_6 (p p2 p3:Option Addr) (n c I c2 n3 c3:Nat) (d x o:List Int) (hd:RI d) (ho:RI o) (w:World) (h1:Nums .i64 w (.slice p n c) d) (h2:Nums .i64 w (.slice p2 I c2) x) (h3:Nums .i64 w (.slice p3 n3 c3) o):
  Calls Tryz.prog 124 #[.agg #[.slice p n c,.slice p2 I c2],.slice p3 n3 c3] w fun e w'=>∃ v',e = .returned (.tuple #[v',.int .i64 (h_Z d x o)])/\TRes w' w.heap.size v' (g_4 d x o) (e_P d x o)/\Below w.heap.size w w':=by
 have cA:=fun W (hW:Below w.heap.size w W)=>a_B _ _ d x hd W (h1.up hW) (h2.up hW);have HN:Hid (Nums .i64 w (.slice p n c) d/\Nums .i64 w (.slice p2 I c2) x/\Nums .i64 w (.slice p3 n3 c3) o):=⟨h1,h2,h3⟩
 obtain ⟨_,_,_,e4,HD⟩:=h1.lst;cases e4;obtain ⟨_,_,_,e4,HX⟩:=h2.lst;cases e4;obtain ⟨_,_,_,e4,HO⟩:=h3.lst;cases e4;by_cases hp:isP d x
 ·rw [decide_eq_true hp] at cA;have hn:n<=4:=by rw [<- HD.out.1,<- a_Q d];exact hp.1.1
  have bp:(n:Int)<=4:=by omega
  have cB:=fun W (hW:Below w.heap.size w W)=>o_l _ o ho n hn W (h3.up hW);by_cases hq:l_f o n
  ·rw [decide_eq_true hq] at cB;have ht:f_5 d x o:=⟨hp,by rw [HD.out.1];exact hq⟩
   obtain ⟨a,r,hT⟩:=s_8 ht;obtain ⟨e1,e2,e3⟩:=hT.V ht;rw [e1,e2,e3]
   have cS:∀ W,Below w.heap.size w W->Calls Tryz.prog 149 #[.slice p n c] W fun e w'=>∃ v',e = .returned v'/\OwnK .i64 3 w' W.heap.size v' (itl (a_x a))/\Below W.heap.size W w':=fun W hW=>by
    have:=f_h _ d hd W (h1.up hW);rw [hT.da,show c_I (itl a)=itl (a_x a) by unfold c_I;rw [a_p,if_pos hT.ga]] at this;exact this
   have ha:a.length=n:=by rw [<- HD.out.1,hT.da,a_v]
   have bb:n=n3:=by rw [<- HO.out.1];exact hq.1.symm
   subst bb;obtain ⟨N,eN⟩:∃ N,a_e a=N:=⟨_,rfl⟩
   have bc:I=N:=by rw [<- HX.out.1,hT.lx,eN]
   subst bc;obtain ⟨D,eD⟩:∃ D,itl (c_d a r)=D:=⟨_,rfl⟩
   obtain ⟨T,eT⟩:∃ T,itl (f_1 a r)=T:=⟨_,rfl⟩
   obtain ⟨V,eV⟩:∃ V,((List.range I).map fun i=>x.getD (f_m a r i) 0)=V:=⟨_,rfl⟩
   have E:Hid (Turns d x o a r/\a.length=n/\a_e a=I/\itl (c_d a r)=D/\itl (f_1 a r)=T/\((List.range I).map fun i=>x.getD (f_m a r i) 0)=V/\D.length=n/\T.length=n/\V.length=I):=⟨hT,ha,eN,eD,eT,eV,by rw [<- eD,a_v,b_E,hT.or.1,ha],by rw [<- eT,a_v,f_q,hT.or.1,ha],by rw [<- eV];simp⟩
   have hN:1<=I/\I<=4096:=by rw [<- eN];exact ⟨hT.ga.pos,hT.ga.2.2⟩
   have bq:1<=(I:Int)/\(I:Int)<=4096:=by omega
   rw [eN,eD,eV];obtain ⟨MK,aN⟩:∃ MK,a_4 .i64 (List.replicate n 0)=MK:=⟨_,rfl⟩
   have az:Hid (a_4 .i64 (List.replicate n 0)=MK):=aN;clear e1 e2 e3 hp hq ht h1 h2 h3 hd ho eN eD eT eV hT ha aN;go_enter Tryz.func124,Tryz.ntmps124;go_wp2_with fail
   generalize J:World.alloc _ _=W0;have U:=b_1 (w:=w) J (by go_grown);have XA:Hid (Cel W0 w.heap.size (.slice p n c) (.slice p2 I c2)):=a_F J (by simp [go_sem]);have XR:Hid (Cel W0 (w.heap.size+1) (.slice none 0 0) (.slice none 0 0)):=a_F J (by simp [go_sem]);clear J;refine (cA W0 U.out).mono ?_;rintro e w1 ⟨rfl,O⟩;have M:=a_N (a_c U.out O) O;clear O;clear cA;obtain ⟨a0,a1,_,_⟩:=XA.out.up M.out.2;go_wp2_with fail
   refine (cB w1 M.out.1).mono ?_;rintro e w2 ⟨rfl,ah⟩;have ag:=a_N (a_c M.out.1 ah) (a_c M.out.2 ah);clear ah a0 a1 cB;obtain ⟨a0,a1,_,_⟩:=XA.out.up ag.out.2;go_wp2_with fail
   refine (cS w2 ag.out.1).mono ?_;rintro e w3 ⟨vs,rfl,aU,aC⟩;have af:=a_N (a_c ag.out.1 aC) (a_c ag.out.2 aC);have ba:Hid (OwnK .i64 3 w3 w2.heap.size vs (itl (a_x a))):=aU;clear aC aU a0 a1 cS;obtain ⟨a0,a1,_,_⟩:=XA.out.up af.out.2;have aO:∀ W,(Instr.makeSlice 22 (.int .i64 (n:Int)) (.int .i64 (n:Int))).run Tryz.prog W = .ok (.slice (some ⟨W.heap.size,0,none⟩) n n) (W.alloc (.cells MK.toArray 3)):=fun W=>by rw [<- az.out];exact o_j i_r (by decide) n (by omega) .i64 .i64 W
   go_wp2_with fail
   go_region;generalize am:World.drew _=W4;obtain ⟨ao,O1,O2⟩:=j_T (k:=.i64) (e:=3) (w3:=w3) (W4:=W4) (n:=n) (by omega) (by rw [az.out];exact am);obtain ⟨H,R⟩:∃ H,w3.heap.size=H:=⟨_,rfl⟩
   obtain ⟨L,ae⟩:∃ L,w3.heap.size+1=L:=⟨_,rfl⟩
   have ab:Hid (Below w3.heap.size w3 W4/\w3.heap.size<=H/\w3.heap.size<=L/\H≠L):=⟨ao,by omega,by omega,by omega⟩
   rw [ae,R]
   have aQ:Hid (OwnK .i64 3 W4 w3.heap.size (.slice (some ⟨H,0,none⟩) n n) (b_I D 0)/\OwnK .i64 3 W4 w3.heap.size (.slice (some ⟨L,0,none⟩) n n) (b_I T 0)):=by
    rw [a_1,a_1,E.out.2.2.2.2.2.2.1,E.out.2.2.2.2.2.2.2.1,<- R,<- ae];exact ⟨O1,O2⟩
   clear am ao O1 O2 R ae aO a0 a1;rotate_left;generalize am:World.drew _=W4;obtain ⟨ao,O1,O2⟩:=j_T (k:=.i64) (e:=3) (w3:=w3) (W4:=W4) (n:=n) (by omega) (by rw [az.out];exact am);obtain ⟨H,R⟩:∃ H,w3.heap.size+1=H:=⟨_,rfl⟩
   obtain ⟨L,ae⟩:∃ L,w3.heap.size=L:=⟨_,rfl⟩
   have ab:Hid (Below w3.heap.size w3 W4/\w3.heap.size<=H/\w3.heap.size<=L/\H≠L):=⟨ao,by omega,by omega,by omega⟩
   rw [R,ae]
   have aQ:Hid (OwnK .i64 3 W4 w3.heap.size (.slice (some ⟨H,0,none⟩) n n) (b_I D 0)/\OwnK .i64 3 W4 w3.heap.size (.slice (some ⟨L,0,none⟩) n n) (b_I T 0)):=by
    rw [a_1,a_1,E.out.2.2.2.2.2.2.1,E.out.2.2.2.2.2.2.2.1,<- R,<- ae];exact ⟨O2,O1⟩
   clear am ao O1 O2 R ae aO a0 a1
   all_goals
    go_wp2_with fail
    go_loopg [37] n (fun gg i wr=>∃ (k:Nat),k<=n/\gg=n - k/\i = .int .i64 (k:Int)/\Hid (OwnK .i64 3 wr w3.heap.size (.slice (some ⟨H,0,none⟩) n n) (b_I D k)/\OwnK .i64 3 wr w3.heap.size (.slice (some ⟨L,0,none⟩) n n) (b_I T k))/\Hid (Below w3.heap.size w3 wr))
    case atStart=>exact ⟨0,by omega,by omega,by first|rfl|simp,aQ,ab.out.1⟩
    case round=>
     obtain ⟨k,hk,hg,rfl,HG,hB⟩:=hrel;obtain ⟨R1,a4⟩:∃ R1:World,R1=wr:=⟨_,rfl⟩
     subst a4;by_cases ai:k < n
     ·have bk:(k:Int) < (n:Int):=by omega
      obtain ⟨q3,o3,rfl,aK⟩:=HO.out.2 k ai;have aX:=a_d aK (a_c af.out.1 hB.out);have aa:=E.out.1.or;rw [E.out.2.1] at aa;have aG:k < r.length:=by rw [aa.1];exact ai
      rw [E.out.1.dr,a_O] at aX;obtain ⟨j,ej⟩:∃ j,r.getD k 0=j:=⟨_,rfl⟩
      have hj:j < n:=by
       rw [<- ej,a_r r k 0 aG];exact aa.2.1 _ (List.getElem_mem _)
      rw [ej] at aX;have bj:(j:Int) < (n:Int):=by omega
      obtain ⟨qd,od,rfl,aJ⟩:=HD.out.2 j hj;have aI:=a_d aJ (a_c af.out.1 hB.out);rw [E.out.1.da,a_O] at aI;obtain ⟨_,_,_,a5,aH⟩:=(ba.out.up hB.out).nums.lst;subst a5;have aP:=aH.out.1;rw [a_v,b_T,E.out.2.1] at aP;subst aP;obtain ⟨qt,ot,rfl,aR⟩:=aH.out.2 j hj;rw [a_O] at aR;obtain ⟨A,eA⟩:∃ A,a.getD j 0=A:=⟨_,rfl⟩
      obtain ⟨S,eS⟩:∃ S,(a_x a).getD j 0=S:=⟨_,rfl⟩
      rw [eA] at aI;rw [eS] at aR
      have ar:Hid (D.getD k 0=(A:Int)/\T.getD k 0=(S:Int)):=by
       refine ⟨?_,?_⟩
       ·rw [<- E.out.2.2.2.1,a_O,f_j a r k aG,ej,eA]
       ·rw [<- E.out.2.2.2.2.1,a_O,h_L a r k aG,ej,eS]
      obtain ⟨bo,bi⟩:=HG.out.1.cell (by rw [a_z];exact E.out.2.2.2.2.2.2.1) k ai;obtain ⟨bl,bh⟩:=HG.out.2.cell (by rw [a_z];exact E.out.2.2.2.2.2.2.2.1) k ai;have aA:=ab.out.2.2.2;have be:¬ L=H:=fun h=>aA h.symm
      have H5:Hid (OwnK .i64 3 ((R1.setCell ⟨H,k,none⟩ (.int .i64 (A:Int))).setCell ⟨L,k,none⟩ (.int .i64 (S:Int))) w3.heap.size (.slice (some ⟨H,0,none⟩) n n) (b_I D (k+1))/\OwnK .i64 3 ((R1.setCell ⟨H,k,none⟩ (.int .i64 (A:Int))).setCell ⟨L,k,none⟩ (.int .i64 (S:Int))) w3.heap.size (.slice (some ⟨L,0,none⟩) n n) (b_I T (k+1))):=by
       have h1:=HG.out.1.store (by rw [a_z];exact E.out.2.2.2.2.2.2.1) k (A:Int);rw [<- ar.out.1,b_r D k (by rw [E.out.2.2.2.2.2.2.1];exact ai),ar.out.1] at h1;have h2:=(HG.out.2.stay ((Stay.refl H R1).set k (.int .i64 (A:Int))) (fun ad n1 c1 e1=>by cases e1;exact fun h=>aA h.symm)).store (by rw [a_z];exact E.out.2.2.2.2.2.2.2.1) k (S:Int);rw [<- ar.out.2,b_r T k (by rw [E.out.2.2.2.2.2.2.2.1];exact ai),ar.out.2] at h2;exact ⟨h1.stay ((Stay.refl L _).set k (.int .i64 (S:Int))) (fun ad n1 c1 e1=>by cases e1;exact aA),h2⟩
      have H6:Hid (Below w3.heap.size w3 ((R1.setCell ⟨H,k,none⟩ (.int .i64 (A:Int))).setCell ⟨L,k,none⟩ (.int .i64 (S:Int)))):=(hB.out.setCell (p:=⟨H,k,none⟩) ab.out.2.1 _).setCell (p:=⟨L,k,none⟩) ab.out.2.2.1 _;obtain ⟨a0,a1,_,_⟩:=XA.out.up (a_c af.out.2 hB.out);clear aK aJ eA eS ej aa aH;have BD:Below ((R1.setCell ⟨H,k,none⟩ (.int .i64 (A:Int))).setCell ⟨L,k,none⟩ (.int .i64 (S:Int))).heap.size ((R1.setCell ⟨H,k,none⟩ (.int .i64 (A:Int))).setCell ⟨L,k,none⟩ (.int .i64 (S:Int))) ((R1.setCell ⟨H,k,none⟩ (.int .i64 (A:Int))).setCell ⟨L,k,none⟩ (.int .i64 (S:Int))).drew:=⟨rfl,rfl,rfl,Nat.le_refl _,fun _ _=>rfl⟩
      have H7:Hid (OwnK .i64 3 ((R1.setCell ⟨H,k,none⟩ (.int .i64 (A:Int))).setCell ⟨L,k,none⟩ (.int .i64 (S:Int))).drew w3.heap.size (.slice (some ⟨H,0,none⟩) n n) (b_I D (k+1))/\OwnK .i64 3 ((R1.setCell ⟨H,k,none⟩ (.int .i64 (A:Int))).setCell ⟨L,k,none⟩ (.int .i64 (S:Int))).drew w3.heap.size (.slice (some ⟨L,0,none⟩) n n) (b_I T (k+1))):=⟨H5.out.1.up BD,H5.out.2.up BD⟩
      have H8:Hid (Below w3.heap.size w3 ((R1.setCell ⟨H,k,none⟩ (.int .i64 (A:Int))).setCell ⟨L,k,none⟩ (.int .i64 (S:Int))).drew):=H6.out.trans (BD.mono H6.out.size);clear BD H5 H6;go_wp2_with fail
      go_region;go_wp2;go_roundg (n - (k+1))
      case measure=>omega
      case rel=>exact ⟨k+1,by omega,rfl,by first|rfl|simp,H7,H8⟩
     ·obtain rfl:k=n:=by omega
      have aj:=HG.out.1;have aF:=HG.out.2;rw [<- E.out.2.2.2.2.2.2.1,b_h,E.out.2.2.2.2.2.2.1] at aj;rw [<- E.out.2.2.2.2.2.2.2.1,b_h,E.out.2.2.2.2.2.2.2.1] at aF;have aw:Hid (OwnK .i64 3 R1 w3.heap.size (.slice (some ⟨H,0,none⟩) k k) D/\OwnK .i64 3 R1 w3.heap.size (.slice (some ⟨L,0,none⟩) k k) T):=⟨aj,aF⟩
      have ak:Hid (Below w.heap.size w R1/\Below W0.heap.size W0 R1):=⟨a_c af.out.1 hB.out,a_c af.out.2 hB.out⟩
      obtain ⟨a0,a1,_,_⟩:=XA.out.up ak.out.2;clear aj aF;go_wp2_with (at_make;refine a_y k_C (by decide) _ rfl (.tmp 60) (.tmp 60) rfl .i64 .i64 I I I rfl rfl rfl rfl (by omega) w.heap.size w ak.out.1.size ak.out.1 ?_;intro w6 au B6 a8;clear a8)
      have aT:=a_N (a_c ak.out.1 B6) (a_c ak.out.2 B6);have av:Hid (OwnK .i64 3 w6 w3.heap.size (.slice (some ⟨H,0,none⟩) k k) D/\OwnK .i64 3 w6 w3.heap.size (.slice (some ⟨L,0,none⟩) k k) T):=⟨aw.out.1.up B6,aw.out.2.up B6⟩
      obtain ⟨g,hg⟩:∃ g,R1.heap.size=g:=⟨_,rfl⟩
      have hz:=a_a XR.out.1;have R:=aw.out.1.size;have Hg:Hid (W0.heap.size<=g/\w.heap.size+1 < W0.heap.size/\W0.heap.size<=w3.heap.size/\H < g/\g < w6.heap.size):=⟨by rw [<- hg];exact ak.out.2.size,hz,af.out.2.size,by rw [<- hg];exact R,by rw [<- hg];exact au.out.size⟩
      rw [hg] at au ⊢;have aa:=E.out.1.or;have cW:=j_C (.slice (some ⟨H,0,none⟩) k k) (.slice (some ⟨L,0,none⟩) k k) (c_d a r) (f_1 a r) (f_l E.out.1.ga aa) (by rw [b_E,f_q]) (n_R E.out.1.ga r) w6 (by rw [E.out.2.2.2.1];exact av.out.1.nums) (by rw [E.out.2.2.2.2.1];exact av.out.2.nums);refine cW.mono ?_;rintro e w7 ⟨vw,rfl,h7,aq⟩;obtain ⟨pw,nw,cw,rfl,aY⟩:=h7.nums.lst;have a6:I=nw:=by rw [<- aY.out.1,a_v,h_K,d_s aa,E.out.2.2.1]
      subst a6;have aS:Hid (OwnK .i64 3 w7 w6.heap.size (.slice pw I cw) (itl (f_o (c_d a r) (f_1 a r)))):=h7;have aD:=a_N (a_c aT.out.1 aq) (a_c aT.out.2 aq)
      have bd:Hid (OwnK .i64 48 w7 g (.slice (some ⟨g,0,none⟩) I I) (b_I V 0)):=by
       show OwnK _ _ _ _ _ _;rw [a_1,E.out.2.2.2.2.2.2.2.2];exact au.out.up aq
      have aL:Hid (Cel w7 w.heap.size (.slice p k c) (.slice p2 I c2)/\Cel w7 (w.heap.size+1) (.slice none 0 0) (.slice none 0 0)):=⟨XA.out.up aD.out.2,XR.out.up aD.out.2⟩
      have a9:Hid (OwnK .i64 3 w7 w3.heap.size (.slice (some ⟨H,0,none⟩) k k) D):=av.out.1.up aq;clear cW h7 aq aY a0 a1 au B6 hg hz R aa aw av;go_wp2_with fail
      go_loopg [66] I (fun gg i wr=>∃ (m:Nat),m<=I/\gg=I - m/\i = .int .i64 (m:Int)/\Hid (OwnK .i64 48 wr g (.slice (some ⟨g,0,none⟩) I I) (b_I V m))/\Hid (Below w.heap.size w wr/\Stay g w7 wr))
      case atStart=>exact ⟨0,by omega,by omega,by first|rfl|simp,bd,aD.out.1,Stay.refl _ _⟩
      case round=>
       obtain ⟨m,hm,hg,rfl,aB,ac⟩:=hrel;obtain ⟨R2,a7⟩:∃ R2:World,R2=wr:=⟨_,rfl⟩
       subst a7;by_cases ap:m < I
       ·have bm:(m:Int) < (I:Int):=by omega
        obtain ⟨_,_,_,e4,aM⟩:=(aS.out.nums.stay ac.out.2 (aS.out.off Hg.out.2.2.2.2)).lst;cases e4;obtain ⟨qa,oa,rfl,aZ⟩:=aM.out.2 m ap;have aE:m < a_e a:=by rw [E.out.2.2.1];exact ap
        rw [a_O,l_D E.out.1.ga E.out.1.or m aE] at aZ;have ia:=n_Q E.out.1.ga E.out.1.or m aE;rw [E.out.2.2.1] at ia;obtain ⟨i,ei⟩:∃ i,f_m a r m=i:=⟨_,rfl⟩
        rw [ei] at aZ ia;have bg:(i:Int) < (I:Int):=by omega
        obtain ⟨qx,ox,rfl,aV⟩:=HX.out.2 i ia;have a2:=a_d aV ac.out.1;obtain ⟨X,eX⟩:∃ X,x.getD i 0=X:=⟨_,rfl⟩
        rw [eX] at a2
        have HZ:Hid (V.getD m 0=X):=by
         show _=_;rw [<- E.out.2.2.2.2.2.1,a_J _ _ _ _ ap,ei,eX]
        obtain ⟨bf,bn⟩:=aB.out.cell (by rw [a_z];exact E.out.2.2.2.2.2.2.2.2) m ap
        have H5:Hid (OwnK .i64 48 (R2.setCell ⟨g,m,none⟩ (.int .i64 X)) g (.slice (some ⟨g,0,none⟩) I I) (b_I V (m+1))):=by
         have:=aB.out.store (by rw [a_z];exact E.out.2.2.2.2.2.2.2.2) m X;rw [<- HZ.out,b_r V m (by rw [E.out.2.2.2.2.2.2.2.2];exact ap)] at this;rw [<- HZ.out];exact this
        have aW:w.heap.size<=g:=by have:=Hg.out;omega
        have H6:Hid (Below w.heap.size w (R2.setCell ⟨g,m,none⟩ (.int .i64 X))/\Stay g w7 (R2.setCell ⟨g,m,none⟩ (.int .i64 X))):=⟨ac.out.1.setCell (p:=⟨g,m,none⟩) aW _,ac.out.2.set _ _⟩
        have ay:w.heap.size≠g:=by have:=Hg.out;omega
        obtain ⟨a0,a1,_,_⟩:=aL.out.1.stay ac.out.2 ay;clear eX ei aV aM ay aW aE;go_wp2;go_roundg (I - (m+1))
        case measure=>omega
        case rel=>exact ⟨m+1,by omega,rfl,by first|rfl|simp,H5,H6⟩
       ·obtain rfl:m=I:=by omega
        have ax:w.heap.size+1≠g:=by have:=Hg.out;omega
        have a3:Hid (Cel R2 (w.heap.size+1) (.slice none 0 0) (.slice none 0 0)):=aL.out.2.stay ac.out.2 ax;have an:=aB.out;rw [<- E.out.2.2.2.2.2.2.2.2,b_h,E.out.2.2.2.2.2.2.2.2] at an;have aj:=a9.out.stay ac.out.2 (fun ad n1 c1 e1=>by cases e1;have:=Hg.out.2.2.2.1;show H≠g;omega)
        have HF:Hid (TRes (set2 R2 (w.heap.size+1) (.slice (some ⟨H,0,none⟩) k k) (.slice (some ⟨g,0,none⟩) m m)) w.heap.size (.agg #[.slice (some ⟨H,0,none⟩) k k,.slice (some ⟨g,0,none⟩) m m]) D V/\Below w.heap.size w (set2 R2 (w.heap.size+1) (.slice (some ⟨H,0,none⟩) k k) (.slice (some ⟨g,0,none⟩) m m))):=
         ⟨(TRes.set (aj.low Hg.out.2.2.1) (an.low Hg.out.1) Hg.out.2.1).low U.out.size,a_j ac.out.1 _ (by omega) _ _⟩
        clear an aj ax;have xr:=a3.out;have cf:=xr.set (.slice (some ⟨H,0,none⟩) k k) (.slice (some ⟨g,0,none⟩) m m);obtain ⟨r0,r1,r2,r3⟩:=xr;obtain ⟨y0,y1,_,_⟩:=cf;go_wp2;exact bodyPost_ret (v:=.tuple #[.agg #[.slice (some ⟨H,0,none⟩) k k,.slice (some ⟨g,0,none⟩) m m],.int .i64 0]) (by simp [results,Tryz.results124,go_sem,y0,y1]) rfl ⟨_,rfl,HF.out⟩
  ·rw [decide_eq_false hq] at cB;obtain ⟨e1,e2,e3⟩:=h_0 (d:=d) (x:=x) (o:=o) fun h=>hq (by rw [<- HD.out.1];exact h.2);rw [e1,e2,e3];clear e1 e2 e3 h1 h2 h3 hd ho hp hq;go_enter Tryz.func124,Tryz.ntmps124;go_wp2_with fail
   generalize J:World.alloc _ _=W0;have U:=b_1 (w:=w) J (by go_grown);have XA:Hid (Cel W0 w.heap.size (.slice p n c) (.slice p2 I c2)):=a_F J (by simp [go_sem]);have XR:Hid (Cel W0 (w.heap.size+1) (.slice none 0 0) (.slice none 0 0)):=a_F J (by simp [go_sem]);clear J;refine (cA W0 U.out).mono ?_;rintro e w1 ⟨rfl,O⟩;have M:=a_N (a_c U.out O) O;clear O;clear cA;obtain ⟨a0,a1,_,_⟩:=XA.out.up M.out.2;go_wp2_with fail
   refine (cB w1 M.out.1).mono ?_;rintro e w2 ⟨rfl,ah⟩;have ag:=a_N (a_c M.out.1 ah) (a_c M.out.2 ah);clear ah a0 a1 cB;have xr:=(XR.out.up ag.out.2)
   have BF:=a_j (ag.out.1) (w.heap.size+1) (by omega) (.slice none 0 0) (.slice none 0 0);have cf:=xr.set (.slice none 0 0) (.slice none 0 0);obtain ⟨r0,r1,r2,r3⟩:=xr;obtain ⟨y0,y1,_,_⟩:=cf;go_wp2;exact bodyPost_ret (v:=.tuple #[.agg #[.slice none 0 0,.slice none 0 0],.int .i64 1]) (by simp [results,Tryz.results124,go_sem,y0,y1]) rfl ⟨_,rfl,TRes.none _ _,BF⟩
 ·rw [decide_eq_false hp] at cA;obtain ⟨e1,e2,e3⟩:=h_0 (d:=d) (x:=x) (o:=o) fun h=>hp h.1;rw [e1,e2,e3];clear e1 e2 e3 h1 h2 h3 hd ho hp;go_enter Tryz.func124,Tryz.ntmps124;go_wp2_with fail
  generalize J:World.alloc _ _=W0;have U:=b_1 (w:=w) J (by go_grown);have XA:Hid (Cel W0 w.heap.size (.slice p n c) (.slice p2 I c2)):=a_F J (by simp [go_sem]);have XR:Hid (Cel W0 (w.heap.size+1) (.slice none 0 0) (.slice none 0 0)):=a_F J (by simp [go_sem]);clear J;refine (cA W0 U.out).mono ?_;rintro e w1 ⟨rfl,O⟩;have M:=a_N (a_c U.out O) O;clear O;have xr:=(XR.out.up M.out.2)
  have BF:=a_j (M.out.1) (w.heap.size+1) (by omega) (.slice none 0 0) (.slice none 0 0);have cf:=xr.set (.slice none 0 0) (.slice none 0 0);obtain ⟨r0,r1,r2,r3⟩:=xr;obtain ⟨y0,y1,_,_⟩:=cf;go_wp2;exact bodyPost_ret (v:=.tuple #[.agg #[.slice none 0 0,.slice none 0 0],.int .i64 1]) (by simp [results,Tryz.results124,go_sem,y0,y1]) rfl ⟨_,rfl,TRes.none _ _,BF⟩
end Go.Proofs.YtcpbhhlepdgdkaaGreatDoor.Wd
