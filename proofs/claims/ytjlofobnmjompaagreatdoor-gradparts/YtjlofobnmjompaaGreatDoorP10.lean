/- Tensors: what tens.eachOnce and tens.Tur -/
import Derived.Test.YtjlofobnmjompaaGreatDoorP03
set_option linter.unusedVariables false
set_option linter.unusedSimpArgs false
set_option maxHeartbeats 16000000
set_option maxRecDepth 16000
namespace Go.Proofs.YtjlofobnmjompaaGreatDoor.Wd
open Go.RowKit
/-- An order names each of n places once. -/
abbrev k_8 (o:List Int) (n:Nat):Prop:=o.length=n/\(∀ k,k < n->0<=o.getD k 0/\o.getD k 0 < (n:Int))/\∀ i,i < n->∀ k,k < n->o.getD i 0=o.getD k 0->i=k
/-- The same, of the first m. -/
def r_b (o:List Int) (n m:Nat):Prop:=(∀ k,k < m->0<=o.getD k 0/\o.getD k 0 < (n:Int))/\∀ i,i < m->∀ k,k < m->o.getD i 0=o.getD k 0->i=k
theorem l_X (o:List Int) (n:Nat):r_b o n 0:=⟨fun k h=>by omega,fun i h=>by omega⟩
theorem l_Y {o:List Int} {n:Nat} (D:o.length=n) (h:r_b o n n):k_8 o n:=⟨D,h.1,h.2⟩
theorem l_Z {o:List Int} {n m:Nat} (h:r_b o n m) (L:0<=o.getD m 0/\o.getD m 0 < (n:Int)) (H:∀ i,i < m->o.getD i 0≠o.getD m 0):r_b o n (m+1):=by
 refine ⟨fun k D=>?_,fun i M k D e=>?_⟩
 ·rcases Nat.lt_succ_iff_lt_or_eq.1 D with J|rfl
  ·exact h.1 k J
  ·exact L
 ·rcases Nat.lt_succ_iff_lt_or_eq.1 M with I|rfl
  ·rcases Nat.lt_succ_iff_lt_or_eq.1 D with E|rfl
   ·exact h.2 i I k E e
   ·exact absurd e (H i I)
  ·rcases Nat.lt_succ_iff_lt_or_eq.1 D with E|rfl
   ·exact absurd e.symm (H k E)
   ·rfl
/-- Those that the first k name. -/
def c_Y (o:List Int) (n:Nat):Nat->List Bool
 | 0=>List.replicate n false
 | k+1=>(c_Y o n k).set (o.getD k 0).toNat true
theorem d_y (o:List Int) (n:Nat):∀ k,(c_Y o n k).length=n
 | 0=>by simp [c_Y]
 | k+1=>by rw [c_Y,List.length_set,d_y o n k]
theorem g_h {o:List Int} {n:Nat} (j:Nat) (H:j < n):∀ k,(∀ i,i < k->0<=o.getD i 0)->((c_Y o n k).getD j false=true↔∃ i,i < k/\o.getD i 0=(j:Int))
 | 0,_=>by
  rw [c_Y,a_r _ _ _ (by simp;exact H),List.getElem_replicate];constructor
  ·intro h;cases h
  ·rintro ⟨i,h,_⟩;omega
 | k+1,h=>by
  have J:=g_h j H k fun i M=>h i (by omega);have L:=h k (by omega);rw [c_Y,List.getD_eq_getElem?_getD,List.getElem?_set,d_y];by_cases e:(o.getD k 0).toNat=j
  ·rw [if_pos e,if_pos (by omega)];refine ⟨fun _=>⟨k,by omega,by omega⟩,fun _=>rfl⟩
  ·rw [if_neg e,<- List.getD_eq_getElem?_getD,J];constructor
   ·rintro ⟨i,E,D⟩;exact ⟨i,by omega,D⟩
   ·rintro ⟨i,E,D⟩;rcases Nat.lt_succ_iff_lt_or_eq.1 E with I|rfl
    ·exact ⟨i,I,D⟩
    ·exact absurd (by omega) e
def k_D (l:List Bool):List Value:=l.map Value.bool
/-- A slice of bools of the call's own. -/
def OwnB (W:World) (B:Nat) (v:Value) (l:List Bool):Prop:=W.ownsRow B 4 1 v l.length (k_D l)
theorem OwnB.cell {W:World} {B g n c:Nat} {l:List Bool} (h:OwnB W B (.slice (some ⟨g,0,none⟩) n c) l) (E:l.length=n) (j:Nat) (D:j < n):W.cell? ⟨g,j,none⟩=some (.bool (l.getD j false))/\W.frozen? ⟨g,j,none⟩=false:=by
 subst E;refine ⟨?_,World.ownsRow.frozenAt h j⟩;rw [World.ownsRow.cellAt h j (by omega)];unfold k_D;rw [List.getElem?_map,List.getElem?_eq_getElem D,List.getD_eq_getElem?_getD,List.getElem?_eq_getElem D];rfl
theorem OwnB.store {W:World} {B g n c:Nat} {l:List Bool} (h:OwnB W B (.slice (some ⟨g,0,none⟩) n c) l) (D:l.length=n) (j:Nat) (x:Bool):OwnB (W.setCell ⟨g,j,none⟩ (.bool x)) B (.slice (some ⟨g,0,none⟩) n c) (l.set j x):=by
 subst D;have:=(World.ownsRow.stored h j (.bool x)).1;unfold OwnB;rw [List.length_set,show k_D (l.set j x)=(k_D l).set j (.bool x) by unfold k_D;rw [List.map_set]];exact this
theorem s_R:∃ D,Tryz.prog.info? 4=some D/\D.zero=some (.bool false)/\D.size=1/\D.bytes=1:=by
 have h:(Tryz.prog.info? 4).map (fun i=>(i.zero,i.size,i.bytes))=some (some (.bool false),1,1):=by kernel_rfl
 cases E:Tryz.prog.info? 4 with
 | none=>rw [E] at h;cases h
 | some i=>
  rw [E] at h;simp only [Option.map_some,Option.some.injEq,Prod.mk.injEq] at h;exact ⟨i,rfl,h.1,h.2.1,h.2.2⟩
theorem o_b {W:World} {B g n:Nat} (h:W.ownsRow B 4 1 (.slice (some ⟨g,0,none⟩) n n) n (madeCells (Value.bool false).cells (n*1)).toList):Hid (OwnB W B (.slice (some ⟨g,0,none⟩) n n) (List.replicate n false)):=by
 show OwnB _ _ _ _;unfold OwnB k_D;rw [List.length_replicate,List.map_replicate]
 have D:(madeCells (Value.bool false).cells (n*1)).toList=List.replicate n (Value.bool false):=by
  rw [Nat.mul_one];exact toList_madeCells_one _ _
 rw [D] at h;exact h
theorem o_c (v:Value) (o:List Int) (ho:RI o) (n:Nat) (hn:n<=4) (w:World) (hv:Nums .i64 w v o):
  Calls Tryz.prog 165 #[v,.int .i64 (n:Int)] w fun e w'=>e = .returned (.bool (decide (k_8 o n)))/\Below w.heap.size w w':=by
 obtain ⟨p,m,c,rfl,HO⟩:=hv.lst;obtain ⟨r,er⟩:∃ r:Bool,decide (k_8 o n)=r:=⟨_,rfl⟩
 have I:Hid (decide (k_8 o n)=r/\RI o/\o.length=m):=⟨er,ho,HO.out.1⟩
 rw [er];clear er hv ho;have ao:(n:Int)<=4:=by omega
 by_cases R:m=n
 ·subst R;obtain ⟨i0,U,ad,aa,ab⟩:=s_R;go_enter Tryz.func165,Tryz.ntmps165;go_wp2_with (at_make;refine wpList_make_full w rfl (.tmp 12) (.tmp 12) 105 rfl w.heap.size 4 i0 (.bool false) 1 Tryz.underlying105 U ad aa .i64 .i64 m m m rfl rfl rfl rfl (by rw [ab];omega) (by unfold maxLen;omega) (Nat.le_refl _) ?_;intro w1 D E;have B1:Below w.heap.size w w1:=Below.grown (Below.refl _ _) E (Nat.le_refl _) (fun j V=>by cases V);have H1:=o_b D;clear D E)
  go_loopg [16] m (fun gg i wr=>∃ (k:Nat),k<=m/\gg=m - k/\i = .int .i64 (k:Int)/\Hid (r_b o m k)/\Hid (OwnB wr w.heap.size (.slice (some ⟨w.heap.size,0,none⟩) m m) (c_Y o m k))/\Hid (Below w.heap.size w wr))
  case atStart=>exact ⟨0,by omega,by omega,by first|rfl|simp,l_X _ _,H1,B1⟩
  case round=>
   obtain ⟨k,hk,hg,rfl,HK,HB,J⟩:=hrel;by_cases H:k < m
   ·have am:(k:Int) < (m:Int):=by omega
    obtain ⟨q,of,rfl,M⟩:=HO.out.2 k H;have ac:=a_d M J.out;have ry:=I.out.2.1.at k (by rw [I.out.2.2];exact H);obtain ⟨y,ey⟩:∃ y,o.getD k 0=y:=⟨_,rfl⟩
    have L:Hid (o.getD k 0=y):=ey;rw [ey] at ac ry;clear ey M;by_cases aj:y < 0
    ·go_wp2;go_ret;rw [<- I.out.1,decide_eq_false (fun h:k_8 o m=>by have:=(h.2.1 k H).1;rw [L.out] at this;omega)];exact ⟨rfl,J.out⟩
    by_cases an:(m:Int)<=y
    ·go_wp2;go_ret;rw [<- I.out.1,decide_eq_false (fun h:k_8 o m=>by have:=(h.2.1 k H).2;rw [L.out] at this;omega)];exact ⟨rfl,J.out⟩
    obtain ⟨j,ej⟩:∃ j:Nat,y=(j:Int):=⟨y.toNat,by omega⟩
    subst ej;have V:j < m:=by omega
    have ak:(j:Int) < (m:Int):=by omega
    obtain ⟨D,ai⟩:=HB.out.cell (d_y _ _ _) j V;have hN:=g_h (o:=o) (n:=m) j V k fun i U=>(HK.out.1 i U).1;by_cases hb:(c_Y o m k).getD j false=true
    ·rw [hb] at D;have Hb:Hid (∃ i,i < k/\o.getD i 0=(j:Int)):=hN.1 hb;clear hb hN;go_wp2;go_ret
     rw [<- I.out.1,decide_eq_false (fun h:k_8 o m=>by
      obtain ⟨i,h1,h2⟩:=Hb.out;have:=h.2.2 i (by omega) k H (by rw [h2,L.out]);omega)]
     exact ⟨rfl,J.out⟩
    ·have O:(c_Y o m k).getD j false=false:=by simpa using hb
     rw [O] at D
     have H2:Hid (OwnB (wr.setCell ⟨w.heap.size,j,none⟩ (.bool true)) w.heap.size (.slice (some ⟨w.heap.size,0,none⟩) m m) (c_Y o m (k+1))):=by
      have:=HB.out.store (d_y _ _ _) j true;show OwnB _ _ _ _;rw [c_Y,L.out,Int.toNat_natCast];exact this
     have af:Hid (r_b o m (k+1)):=l_Z HK.out (by rw [L.out];omega) fun i U e=>hb (hN.2 ⟨i,U,by rw [e,L.out]⟩);have ae:Hid (Below w.heap.size w (wr.setCell ⟨w.heap.size,j,none⟩ (.bool true))):=J.out.setCell (p:=⟨w.heap.size,j,none⟩) (Nat.le_refl _) _;clear hb O hN;go_wp2;go_roundg (m - (k+1))
     case measure=>omega
     case rel=>exact ⟨k+1,by omega,rfl,by first|rfl|simp,af,H2,ae⟩
   ·obtain rfl:k=m:=by omega
    go_wp2;go_ret;rw [<- I.out.1,decide_eq_true (l_Y I.out.2.2 HK.out)];exact ⟨rfl,J.out⟩
 ·have ah:((m:Int) != (n:Int))=true:=by simp;omega
  have ag:¬ ((m:Int)=(n:Int)):=by omega
  go_enter Tryz.func165,Tryz.ntmps165;go_wp2;go_ret;rw [<- I.out.1,decide_eq_false (fun h:k_8 o n=>R (by rw [<- I.out.2.2];exact h.1))];exact ⟨rfl,Below.refl _ _⟩
abbrev f_Z (d x o:List Int):Prop:=isP d x/\k_8 o d.length
def h_O (d x o:List Int):Int:=if f_Z d x o then 0 else 1
def g_X (d x o:List Int):List Int:=if f_Z d x o then itl (b_8 (ntl d) (ntl o)) else []
def e_M (d x o:List Int):List Int:=if f_Z d x o then (List.range (a_e (ntl d))).map fun i=>x.getD (f_i (ntl d) (ntl o) i) 0 else []
theorem h_P {d x o:List Int} (h:¬ f_Z d x o):h_O d x o=1/\g_X d x o = []/\e_M d x o = []:=⟨if_neg h,if_neg h,if_neg h⟩
/-- The sides may change places so. -/
structure Turns (d x o:List Int) (a r:List Nat):Prop where
 da:d=itl a
 dr:o=itl r
 ga:goodN a
 or:d_J a.length r
 lx:x.length=a_e a
theorem s_S {d x o:List Int} (h:f_Z d x o):∃ a r,Turns d x o a r:=by
 obtain ⟨⟨R,J⟩,M,D,L⟩:=h;obtain ⟨a,O,rfl⟩:=b_m R;rw [a_p] at J;rw [a_v] at M D L
 have U:o=itl (ntl o):=by
  refine List.ext_getElem (by rw [a_v,a_R]) fun i E I=>?_;have:=(D i (by omega)).1;rw [<- a_r o i 0 E,<- a_r (itl (ntl o)) i 0 I,a_P,d_2 o i E];omega
 refine ⟨a,ntl o,rfl,U,O,?_,J⟩;refine n_H (by rw [a_R];exact M) (fun k H=>?_) fun i k E H e=>?_
 ·rw [d_2 o k (by omega)];have:=D k H;omega
 ·rw [d_2 o i (by omega),d_2 o k (by omega)] at e;have e1:=D i E;have V:=D k H;exact L i E k H (by omega)
theorem Turns.V {d x o:List Int} {a r:List Nat} (h:Turns d x o a r) (D:f_Z d x o):h_O d x o=0/\g_X d x o=itl (b_8 a r)/\e_M d x o=(List.range (a_e a)).map fun i=>x.getD (f_i a r i) 0:=by
 unfold h_O g_X e_M;rw [if_pos D,if_pos D,if_pos D,h.da,h.dr,a_p,a_p];exact ⟨rfl,rfl,rfl⟩
theorem o_d {P:Program} {t e:TypeId} {k:IntKind} {b:Nat} (T:NumT P t e k b) (E:b<=8) (n:Nat) (U:n<=1073741824) (M R:IntKind) (W:World):(Instr.makeSlice t (.int M (n:Int)) (.int R (n:Int))).run P W = .ok (.slice (some ⟨W.heap.size,0,none⟩) n n) (W.alloc (.cells (b_e k (List.replicate n 0)).toArray e)):=by
 obtain ⟨D,hi,H,I,J⟩:=g_w T;have hm:b*n<=8*1073741824:=Nat.mul_le_mul E U
 have L:(D.bytes:Int)*(n:Int)<=281474976710656:=by
  have h:((D.bytes*n:Nat):Int)<=281474976710656:=by rw [J];omega
  rwa [Int.natCast_mul] at h
 have O:=run_make (P:=P) W t e D (.int k 0) T.ht hi H M R n n (by omega) (Int.le_refl _) L (by omega);simp only [Int.toNat_natCast] at O;rw [O]
 have V:(madeCells (Value.int k 0).cells (n*D.size))=(b_e k (List.replicate n 0)).toArray:=by
  rw [I,Nat.mul_one];apply Array.toList_inj.1;have:=toList_madeCells_one (Value.int k 0) n;rw [show (Value.int k 0).cells=#[Value.int k 0] from rfl,this];unfold b_e;rw [List.map_replicate]
 rw [V]
theorem j_K {k:IntKind} {e:TypeId} {w3 W4:World} {n:Nat} (E:n<=1073741824) (h:((w3.alloc (.cells (b_e k (List.replicate n 0)).toArray e)).alloc (.cells (b_e k (List.replicate n 0)).toArray e)).drew=W4):
  Below w3.heap.size w3 W4/\OwnK k e W4 w3.heap.size (.slice (some ⟨w3.heap.size,0,none⟩) n n) (List.replicate n 0)/\OwnK k e W4 w3.heap.size (.slice (some ⟨w3.heap.size+1,0,none⟩) n n) (List.replicate n 0):=by
 have J:=a_b w3 (.cells (b_e k (List.replicate n 0)).toArray e);have I:=a_b (w3.alloc (.cells (b_e k (List.replicate n 0)).toArray e)) (.cells (b_e k (List.replicate n 0)).toArray e)
 have D:Below ((w3.alloc (.cells (b_e k (List.replicate n 0)).toArray e)).alloc (.cells (b_e k (List.replicate n 0)).toArray e)).heap.size ((w3.alloc (.cells (b_e k (List.replicate n 0)).toArray e)).alloc (.cells (b_e k (List.replicate n 0)).toArray e)) W4:=by
  rw [<- h];exact ⟨rfl,rfl,rfl,Nat.le_refl _,fun _ _=>rfl⟩
 have M:=b_6 (k:=k) (e:=e) w3 (List.replicate n 0) n (by simp) E;have L:=b_6 (k:=k) (e:=e) (w3.alloc (.cells (b_e k (List.replicate n 0)).toArray e)) (List.replicate n 0) n (by simp) E;have H:(w3.alloc (.cells (b_e k (List.replicate n 0)).toArray e)).heap.size=w3.heap.size+1:=Array.size_push _;refine ⟨a_c (a_c J I) D,(M.up I).up D,?_⟩;have:=(L.up D).low (show w3.heap.size<=_ by rw [H];omega);rw [H] at this;exact this
theorem l_0 (p p2 p3:Option Addr) (n c I c2 n3 c3:Nat) (d x o:List Int) (hd:RI d) (ho:RI o) (w:World) (h1:Nums .i64 w (.slice p n c) d) (h2:Nums .i64 w (.slice p2 I c2) x) (h3:Nums .i64 w (.slice p3 n3 c3) o):
  Calls Tryz.prog 135 #[.agg #[.slice p n c,.slice p2 I c2],.slice p3 n3 c3] w fun e w'=>∃ v',e = .returned (.tuple #[v',.int .i64 (h_O d x o)])/\TRes w' w.heap.size v' (g_X d x o) (e_M d x o)/\Below w.heap.size w w':=by
 have cA:=fun W (hW:Below w.heap.size w W)=>a_C _ _ d x hd W (h1.up hW) (h2.up hW);have HN:Hid (Nums .i64 w (.slice p n c) d/\Nums .i64 w (.slice p2 I c2) x/\Nums .i64 w (.slice p3 n3 c3) o):=⟨h1,h2,h3⟩
 obtain ⟨_,_,_,e4,HD⟩:=h1.lst;cases e4;obtain ⟨_,_,_,e4,HX⟩:=h2.lst;cases e4;obtain ⟨_,_,_,e4,HO⟩:=h3.lst;cases e4;by_cases hp:isP d x
 ·rw [decide_eq_true hp] at cA;have hn:n<=4:=by rw [<- HD.out.1,<- a_R d];exact hp.1.1
  have bo:(n:Int)<=4:=by omega
  have cB:=fun W (hW:Below w.heap.size w W)=>o_c _ o ho n hn W (h3.up hW);by_cases hq:k_8 o n
  ·rw [decide_eq_true hq] at cB;have ht:f_Z d x o:=⟨hp,by rw [HD.out.1];exact hq⟩
   obtain ⟨a,r,hT⟩:=s_S ht;obtain ⟨e1,e2,e3⟩:=hT.V ht;rw [e1,e2,e3]
   have cS:∀ W,Below w.heap.size w W->Calls Tryz.prog 160 #[.slice p n c] W fun e w'=>∃ v',e = .returned v'/\OwnK .i64 3 w' W.heap.size v' (itl (a_x a))/\Below W.heap.size W w':=fun W hW=>by
    have:=f_d _ d hd W (h1.up hW);rw [hT.da,show c_G (itl a)=itl (a_x a) by unfold c_G;rw [a_p,if_pos hT.ga]] at this;exact this
   have ha:a.length=n:=by rw [<- HD.out.1,hT.da,a_v]
   have bb:n=n3:=by rw [<- HO.out.1];exact hq.1.symm
   subst bb;obtain ⟨N,eN⟩:∃ N,a_e a=N:=⟨_,rfl⟩
   have a8:I=N:=by rw [<- HX.out.1,hT.lx,eN]
   subst a8;obtain ⟨D,eD⟩:∃ D,itl (b_8 a r)=D:=⟨_,rfl⟩
   obtain ⟨T,eT⟩:∃ T,itl (f_V a r)=T:=⟨_,rfl⟩
   obtain ⟨V,eV⟩:∃ V,((List.range I).map fun i=>x.getD (f_i a r i) 0)=V:=⟨_,rfl⟩
   have E:Hid (Turns d x o a r/\a.length=n/\a_e a=I/\itl (b_8 a r)=D/\itl (f_V a r)=T/\((List.range I).map fun i=>x.getD (f_i a r i) 0)=V/\D.length=n/\T.length=n/\V.length=I):=⟨hT,ha,eN,eD,eT,eV,by rw [<- eD,a_v,b_E,hT.or.1,ha],by rw [<- eT,a_v,f_m,hT.or.1,ha],by rw [<- eV];simp⟩
   have hN:1<=I/\I<=4096:=by rw [<- eN];exact ⟨hT.ga.pos,hT.ga.2.2⟩
   have bk:1<=(I:Int)/\(I:Int)<=4096:=by omega
   rw [eN,eD,eV];obtain ⟨MK,aZ⟩:∃ MK,b_e .i64 (List.replicate n 0)=MK:=⟨_,rfl⟩
   have aD:Hid (b_e .i64 (List.replicate n 0)=MK):=aZ;clear e1 e2 e3 hp hq ht h1 h2 h3 hd ho eN eD eT eV hT ha aZ;go_enter Tryz.func135,Tryz.ntmps135;go_wp2_with fail
   generalize J:World.alloc _ _=W0;have U:=b_W (w:=w) J (by go_grown);have XA:Hid (Cel W0 w.heap.size (.slice p n c) (.slice p2 I c2)):=a_F J (by simp [go_sem]);have XR:Hid (Cel W0 (w.heap.size+1) (.slice none 0 0) (.slice none 0 0)):=a_F J (by simp [go_sem]);clear J;refine (cA W0 U.out).mono ?_;rintro e w1 ⟨rfl,O⟩;have M:=a_N (a_c U.out O) O;clear O;clear cA;obtain ⟨a0,a1,_,_⟩:=XA.out.up M.out.2;go_wp2_with fail
   refine (cB w1 M.out.1).mono ?_;rintro e w2 ⟨rfl,ae⟩;have ah:=a_N (a_c M.out.1 ae) (a_c M.out.2 ae);clear ae a0 a1 cB;obtain ⟨a0,a1,_,_⟩:=XA.out.up ah.out.2;go_wp2_with fail
   refine (cS w2 ah.out.1).mono ?_;rintro e w3 ⟨vs,rfl,aK,aE⟩;have af:=a_N (a_c ah.out.1 aE) (a_c ah.out.2 aE);have a9:Hid (OwnK .i64 3 w3 w2.heap.size vs (itl (a_x a))):=aK;clear aE aK a0 a1 cS;obtain ⟨a0,a1,_,_⟩:=XA.out.up af.out.2;have aT:∀ W,(Instr.makeSlice 30 (.int .i64 (n:Int)) (.int .i64 (n:Int))).run Tryz.prog W = .ok (.slice (some ⟨W.heap.size,0,none⟩) n n) (W.alloc (.cells MK.toArray 3)):=fun W=>by rw [<- aD.out];exact o_d i_g (by decide) n (by omega) .i64 .i64 W
   go_wp2_with fail
   go_region;generalize ao:World.drew _=W4;obtain ⟨an,O1,O2⟩:=j_K (k:=.i64) (e:=3) (w3:=w3) (W4:=W4) (n:=n) (by omega) (by rw [aD.out];exact ao);obtain ⟨H,R⟩:∃ H,w3.heap.size=H:=⟨_,rfl⟩
   obtain ⟨L,ag⟩:∃ L,w3.heap.size+1=L:=⟨_,rfl⟩
   have aa:Hid (Below w3.heap.size w3 W4/\w3.heap.size<=H/\w3.heap.size<=L/\H≠L):=⟨an,by omega,by omega,by omega⟩
   rw [ag,R]
   have aP:Hid (OwnK .i64 3 W4 w3.heap.size (.slice (some ⟨H,0,none⟩) n n) (b_I D 0)/\OwnK .i64 3 W4 w3.heap.size (.slice (some ⟨L,0,none⟩) n n) (b_I T 0)):=by
    rw [a_1,a_1,E.out.2.2.2.2.2.2.1,E.out.2.2.2.2.2.2.2.1,<- R,<- ag];exact ⟨O1,O2⟩
   clear ao an O1 O2 R ag aT a0 a1;rotate_left;generalize ao:World.drew _=W4;obtain ⟨an,O1,O2⟩:=j_K (k:=.i64) (e:=3) (w3:=w3) (W4:=W4) (n:=n) (by omega) (by rw [aD.out];exact ao);obtain ⟨H,R⟩:∃ H,w3.heap.size+1=H:=⟨_,rfl⟩
   obtain ⟨L,ag⟩:∃ L,w3.heap.size=L:=⟨_,rfl⟩
   have aa:Hid (Below w3.heap.size w3 W4/\w3.heap.size<=H/\w3.heap.size<=L/\H≠L):=⟨an,by omega,by omega,by omega⟩
   rw [R,ag]
   have aP:Hid (OwnK .i64 3 W4 w3.heap.size (.slice (some ⟨H,0,none⟩) n n) (b_I D 0)/\OwnK .i64 3 W4 w3.heap.size (.slice (some ⟨L,0,none⟩) n n) (b_I T 0)):=by
    rw [a_1,a_1,E.out.2.2.2.2.2.2.1,E.out.2.2.2.2.2.2.2.1,<- R,<- ag];exact ⟨O2,O1⟩
   clear ao an O1 O2 R ag aT a0 a1
   all_goals
    go_wp2_with fail
    go_loopg [37] n (fun gg i wr=>∃ (k:Nat),k<=n/\gg=n - k/\i = .int .i64 (k:Int)/\Hid (OwnK .i64 3 wr w3.heap.size (.slice (some ⟨H,0,none⟩) n n) (b_I D k)/\OwnK .i64 3 wr w3.heap.size (.slice (some ⟨L,0,none⟩) n n) (b_I T k))/\Hid (Below w3.heap.size w3 wr))
    case atStart=>exact ⟨0,by omega,by omega,by first|rfl|simp,aP,aa.out.1⟩
    case round=>
     obtain ⟨k,hk,hg,rfl,HG,hB⟩:=hrel;obtain ⟨R1,bc⟩:∃ R1:World,R1=wr:=⟨_,rfl⟩
     subst bc;by_cases aj:k < n
     ·have bj:(k:Int) < (n:Int):=by omega
      obtain ⟨q3,o3,rfl,aW⟩:=HO.out.2 k aj;have aJ:=a_d aW (a_c af.out.1 hB.out);have ac:=E.out.1.or;rw [E.out.2.1] at ac;have aH:k < r.length:=by rw [ac.1];exact aj
      rw [E.out.1.dr,a_P] at aJ;obtain ⟨j,ej⟩:∃ j,r.getD k 0=j:=⟨_,rfl⟩
      have hj:j < n:=by
       rw [<- ej,a_r r k 0 aH];exact ac.2.1 _ (List.getElem_mem _)
      rw [ej] at aJ;have bh:(j:Int) < (n:Int):=by omega
      obtain ⟨qd,od,rfl,aV⟩:=HD.out.2 j hj;have aQ:=a_d aV (a_c af.out.1 hB.out);rw [E.out.1.da,a_P] at aQ;obtain ⟨_,_,_,a5,aA⟩:=(a9.out.up hB.out).nums.lst;subst a5;have aI:=aA.out.1;rw [a_v,b_Q,E.out.2.1] at aI;subst aI;obtain ⟨qt,ot,rfl,aS⟩:=aA.out.2 j hj;rw [a_P] at aS;obtain ⟨A,eA⟩:∃ A,a.getD j 0=A:=⟨_,rfl⟩
      obtain ⟨S,eS⟩:∃ S,(a_x a).getD j 0=S:=⟨_,rfl⟩
      rw [eA] at aQ;rw [eS] at aS
      have au:Hid (D.getD k 0=(A:Int)/\T.getD k 0=(S:Int)):=by
       refine ⟨?_,?_⟩
       ·rw [<- E.out.2.2.2.1,a_P,f_f a r k aH,ej,eA]
       ·rw [<- E.out.2.2.2.2.1,a_P,h_C a r k aH,ej,eS]
      obtain ⟨bm,bq⟩:=HG.out.1.cell (by rw [a_A];exact E.out.2.2.2.2.2.2.1) k aj;obtain ⟨bp,bi⟩:=HG.out.2.cell (by rw [a_A];exact E.out.2.2.2.2.2.2.2.1) k aj;have az:=aa.out.2.2.2;have bf:¬ L=H:=fun h=>az h.symm
      have H5:Hid (OwnK .i64 3 ((R1.setCell ⟨H,k,none⟩ (.int .i64 (A:Int))).setCell ⟨L,k,none⟩ (.int .i64 (S:Int))) w3.heap.size (.slice (some ⟨H,0,none⟩) n n) (b_I D (k+1))/\OwnK .i64 3 ((R1.setCell ⟨H,k,none⟩ (.int .i64 (A:Int))).setCell ⟨L,k,none⟩ (.int .i64 (S:Int))) w3.heap.size (.slice (some ⟨L,0,none⟩) n n) (b_I T (k+1))):=by
       have h1:=HG.out.1.store (by rw [a_A];exact E.out.2.2.2.2.2.2.1) k (A:Int);rw [<- au.out.1,b_r D k (by rw [E.out.2.2.2.2.2.2.1];exact aj),au.out.1] at h1;have h2:=(HG.out.2.stay ((Stay.refl H R1).set k (.int .i64 (A:Int))) (fun ad n1 c1 e1=>by cases e1;exact fun h=>az h.symm)).store (by rw [a_A];exact E.out.2.2.2.2.2.2.2.1) k (S:Int);rw [<- au.out.2,b_r T k (by rw [E.out.2.2.2.2.2.2.2.1];exact aj),au.out.2] at h2;exact ⟨h1.stay ((Stay.refl L _).set k (.int .i64 (S:Int))) (fun ad n1 c1 e1=>by cases e1;exact az),h2⟩
      have H6:Hid (Below w3.heap.size w3 ((R1.setCell ⟨H,k,none⟩ (.int .i64 (A:Int))).setCell ⟨L,k,none⟩ (.int .i64 (S:Int)))):=(hB.out.setCell (p:=⟨H,k,none⟩) aa.out.2.1 _).setCell (p:=⟨L,k,none⟩) aa.out.2.2.1 _;obtain ⟨a0,a1,_,_⟩:=XA.out.up (a_c af.out.2 hB.out);clear aW aV eA eS ej ac aA;have BD:Below ((R1.setCell ⟨H,k,none⟩ (.int .i64 (A:Int))).setCell ⟨L,k,none⟩ (.int .i64 (S:Int))).heap.size ((R1.setCell ⟨H,k,none⟩ (.int .i64 (A:Int))).setCell ⟨L,k,none⟩ (.int .i64 (S:Int))) ((R1.setCell ⟨H,k,none⟩ (.int .i64 (A:Int))).setCell ⟨L,k,none⟩ (.int .i64 (S:Int))).drew:=⟨rfl,rfl,rfl,Nat.le_refl _,fun _ _=>rfl⟩
      have H7:Hid (OwnK .i64 3 ((R1.setCell ⟨H,k,none⟩ (.int .i64 (A:Int))).setCell ⟨L,k,none⟩ (.int .i64 (S:Int))).drew w3.heap.size (.slice (some ⟨H,0,none⟩) n n) (b_I D (k+1))/\OwnK .i64 3 ((R1.setCell ⟨H,k,none⟩ (.int .i64 (A:Int))).setCell ⟨L,k,none⟩ (.int .i64 (S:Int))).drew w3.heap.size (.slice (some ⟨L,0,none⟩) n n) (b_I T (k+1))):=⟨H5.out.1.up BD,H5.out.2.up BD⟩
      have H8:Hid (Below w3.heap.size w3 ((R1.setCell ⟨H,k,none⟩ (.int .i64 (A:Int))).setCell ⟨L,k,none⟩ (.int .i64 (S:Int))).drew):=H6.out.trans (BD.mono H6.out.size);clear BD H5 H6;go_wp2_with fail
      go_region;go_wp2;go_roundg (n - (k+1))
      case measure=>omega
      case rel=>exact ⟨k+1,by omega,rfl,by first|rfl|simp,H7,H8⟩
     ·obtain rfl:k=n:=by omega
      have ak:=HG.out.1;have aF:=HG.out.2;rw [<- E.out.2.2.2.2.2.2.1,b_g,E.out.2.2.2.2.2.2.1] at ak;rw [<- E.out.2.2.2.2.2.2.2.1,b_g,E.out.2.2.2.2.2.2.2.1] at aF;have aw:Hid (OwnK .i64 3 R1 w3.heap.size (.slice (some ⟨H,0,none⟩) k k) D/\OwnK .i64 3 R1 w3.heap.size (.slice (some ⟨L,0,none⟩) k k) T):=⟨ak,aF⟩
      have ai:Hid (Below w.heap.size w R1/\Below W0.heap.size W0 R1):=⟨a_c af.out.1 hB.out,a_c af.out.2 hB.out⟩
      obtain ⟨a0,a1,_,_⟩:=XA.out.up ai.out.2;clear ak aF;go_wp2_with (at_make;refine a_y k_w (by decide) _ rfl (.tmp 60) (.tmp 60) rfl .i64 .i64 I I I rfl rfl rfl rfl (by omega) w.heap.size w ai.out.1.size ai.out.1 ?_;intro w6 av B6 bd;clear bd)
      have aY:=a_N (a_c ai.out.1 B6) (a_c ai.out.2 B6);have ar:Hid (OwnK .i64 3 w6 w3.heap.size (.slice (some ⟨H,0,none⟩) k k) D/\OwnK .i64 3 w6 w3.heap.size (.slice (some ⟨L,0,none⟩) k k) T):=⟨aw.out.1.up B6,aw.out.2.up B6⟩
      obtain ⟨g,hg⟩:∃ g,R1.heap.size=g:=⟨_,rfl⟩
      have hz:=a_a XR.out.1;have R:=aw.out.1.size;have Hg:Hid (W0.heap.size<=g/\w.heap.size+1 < W0.heap.size/\W0.heap.size<=w3.heap.size/\H < g/\g < w6.heap.size):=⟨by rw [<- hg];exact ai.out.2.size,hz,af.out.2.size,by rw [<- hg];exact R,by rw [<- hg];exact av.out.size⟩
      rw [hg] at av ⊢;have ac:=E.out.1.or;have cW:=j_t (.slice (some ⟨H,0,none⟩) k k) (.slice (some ⟨L,0,none⟩) k k) (b_8 a r) (f_V a r) (f_h E.out.1.ga ac) (by rw [b_E,f_m]) (n_J E.out.1.ga r) w6 (by rw [E.out.2.2.2.1];exact ar.out.1.nums) (by rw [E.out.2.2.2.2.1];exact ar.out.2.nums);refine cW.mono ?_;rintro e w7 ⟨vw,rfl,h7,am⟩;obtain ⟨pw,nw,cw,rfl,aX⟩:=h7.nums.lst;have a7:I=nw:=by rw [<- aX.out.1,a_v,h_B,d_q ac,E.out.2.2.1]
      subst a7;have aM:Hid (OwnK .i64 3 w7 w6.heap.size (.slice pw I cw) (itl (f_k (b_8 a r) (f_V a r)))):=h7;have aC:=a_N (a_c aY.out.1 am) (a_c aY.out.2 am)
      have a3:Hid (OwnK .i64 23 w7 g (.slice (some ⟨g,0,none⟩) I I) (b_I V 0)):=by
       show OwnK _ _ _ _ _ _;rw [a_1,E.out.2.2.2.2.2.2.2.2];exact av.out.up am
      have aN:Hid (Cel w7 w.heap.size (.slice p k c) (.slice p2 I c2)/\Cel w7 (w.heap.size+1) (.slice none 0 0) (.slice none 0 0)):=⟨XA.out.up aC.out.2,XR.out.up aC.out.2⟩
      have a4:Hid (OwnK .i64 3 w7 w3.heap.size (.slice (some ⟨H,0,none⟩) k k) D):=ar.out.1.up am;clear cW h7 am aX a0 a1 av B6 hg hz R ac aw ar;go_wp2_with fail
      go_loopg [66] I (fun gg i wr=>∃ (m:Nat),m<=I/\gg=I - m/\i = .int .i64 (m:Int)/\Hid (OwnK .i64 23 wr g (.slice (some ⟨g,0,none⟩) I I) (b_I V m))/\Hid (Below w.heap.size w wr/\Stay g w7 wr))
      case atStart=>exact ⟨0,by omega,by omega,by first|rfl|simp,a3,aC.out.1,Stay.refl _ _⟩
      case round=>
       obtain ⟨m,hm,hg,rfl,aB,ab⟩:=hrel;obtain ⟨R2,a2⟩:∃ R2:World,R2=wr:=⟨_,rfl⟩
       subst a2;by_cases ap:m < I
       ·have bg:(m:Int) < (I:Int):=by omega
        obtain ⟨_,_,_,e4,aL⟩:=(aM.out.nums.stay ab.out.2 (aM.out.off Hg.out.2.2.2.2)).lst;cases e4;obtain ⟨qa,oa,rfl,aU⟩:=aL.out.2 m ap;have aG:m < a_e a:=by rw [E.out.2.2.1];exact ap
        rw [a_P,l_x E.out.1.ga E.out.1.or m aG] at aU;have ia:=n_I E.out.1.ga E.out.1.or m aG;rw [E.out.2.2.1] at ia;obtain ⟨i,ei⟩:∃ i,f_i a r m=i:=⟨_,rfl⟩
        rw [ei] at aU ia;have bn:(i:Int) < (I:Int):=by omega
        obtain ⟨qx,ox,rfl,aR⟩:=HX.out.2 i ia;have ba:=a_d aR ab.out.1;obtain ⟨X,eX⟩:∃ X,x.getD i 0=X:=⟨_,rfl⟩
        rw [eX] at ba
        have HZ:Hid (V.getD m 0=X):=by
         show _=_;rw [<- E.out.2.2.2.2.2.1,a_I _ _ _ _ ap,ei,eX]
        obtain ⟨be,bl⟩:=aB.out.cell (by rw [a_A];exact E.out.2.2.2.2.2.2.2.2) m ap
        have H5:Hid (OwnK .i64 23 (R2.setCell ⟨g,m,none⟩ (.int .i64 X)) g (.slice (some ⟨g,0,none⟩) I I) (b_I V (m+1))):=by
         have:=aB.out.store (by rw [a_A];exact E.out.2.2.2.2.2.2.2.2) m X;rw [<- HZ.out,b_r V m (by rw [E.out.2.2.2.2.2.2.2.2];exact ap)] at this;rw [<- HZ.out];exact this
        have aO:w.heap.size<=g:=by have:=Hg.out;omega
        have H6:Hid (Below w.heap.size w (R2.setCell ⟨g,m,none⟩ (.int .i64 X))/\Stay g w7 (R2.setCell ⟨g,m,none⟩ (.int .i64 X))):=⟨ab.out.1.setCell (p:=⟨g,m,none⟩) aO _,ab.out.2.set _ _⟩
        have ax:w.heap.size≠g:=by have:=Hg.out;omega
        obtain ⟨a0,a1,_,_⟩:=aN.out.1.stay ab.out.2 ax;clear eX ei aR aL ax aO aG;go_wp2;go_roundg (I - (m+1))
        case measure=>omega
        case rel=>exact ⟨m+1,by omega,rfl,by first|rfl|simp,H5,H6⟩
       ·obtain rfl:m=I:=by omega
        have ay:w.heap.size+1≠g:=by have:=Hg.out;omega
        have a6:Hid (Cel R2 (w.heap.size+1) (.slice none 0 0) (.slice none 0 0)):=aN.out.2.stay ab.out.2 ay;have aq:=aB.out;rw [<- E.out.2.2.2.2.2.2.2.2,b_g,E.out.2.2.2.2.2.2.2.2] at aq;have ak:=a4.out.stay ab.out.2 (fun ad n1 c1 e1=>by cases e1;have:=Hg.out.2.2.2.1;show H≠g;omega)
        have HF:Hid (TRes (set2 R2 (w.heap.size+1) (.slice (some ⟨H,0,none⟩) k k) (.slice (some ⟨g,0,none⟩) m m)) w.heap.size (.agg #[.slice (some ⟨H,0,none⟩) k k,.slice (some ⟨g,0,none⟩) m m]) D V/\Below w.heap.size w (set2 R2 (w.heap.size+1) (.slice (some ⟨H,0,none⟩) k k) (.slice (some ⟨g,0,none⟩) m m))):=
         ⟨(TRes.set (ak.low Hg.out.2.2.1) (aq.low Hg.out.1) Hg.out.2.1).low U.out.size,a_k ab.out.1 _ (by omega) _ _⟩
        clear aq ak ay;have xr:=a6.out;have cf:=xr.set (.slice (some ⟨H,0,none⟩) k k) (.slice (some ⟨g,0,none⟩) m m);obtain ⟨r0,r1,r2,r3⟩:=xr;obtain ⟨y0,y1,_,_⟩:=cf;go_wp2;exact bodyPost_ret (v:=.tuple #[.agg #[.slice (some ⟨H,0,none⟩) k k,.slice (some ⟨g,0,none⟩) m m],.int .i64 0]) (by simp [results,Tryz.results135,go_sem,y0,y1]) rfl ⟨_,rfl,HF.out⟩
  ·rw [decide_eq_false hq] at cB;obtain ⟨e1,e2,e3⟩:=h_P (d:=d) (x:=x) (o:=o) fun h=>hq (by rw [<- HD.out.1];exact h.2);rw [e1,e2,e3];clear e1 e2 e3 h1 h2 h3 hd ho hp hq;go_enter Tryz.func135,Tryz.ntmps135;go_wp2_with fail
   generalize J:World.alloc _ _=W0;have U:=b_W (w:=w) J (by go_grown);have XA:Hid (Cel W0 w.heap.size (.slice p n c) (.slice p2 I c2)):=a_F J (by simp [go_sem]);have XR:Hid (Cel W0 (w.heap.size+1) (.slice none 0 0) (.slice none 0 0)):=a_F J (by simp [go_sem]);clear J;refine (cA W0 U.out).mono ?_;rintro e w1 ⟨rfl,O⟩;have M:=a_N (a_c U.out O) O;clear O;clear cA;obtain ⟨a0,a1,_,_⟩:=XA.out.up M.out.2;go_wp2_with fail
   refine (cB w1 M.out.1).mono ?_;rintro e w2 ⟨rfl,ae⟩;have ah:=a_N (a_c M.out.1 ae) (a_c M.out.2 ae);clear ae a0 a1 cB;have xr:=(XR.out.up ah.out.2)
   have BF:=a_k (ah.out.1) (w.heap.size+1) (by omega) (.slice none 0 0) (.slice none 0 0);have cf:=xr.set (.slice none 0 0) (.slice none 0 0);obtain ⟨r0,r1,r2,r3⟩:=xr;obtain ⟨y0,y1,_,_⟩:=cf;go_wp2;exact bodyPost_ret (v:=.tuple #[.agg #[.slice none 0 0,.slice none 0 0],.int .i64 1]) (by simp [results,Tryz.results135,go_sem,y0,y1]) rfl ⟨_,rfl,TRes.none _ _,BF⟩
 ·rw [decide_eq_false hp] at cA;obtain ⟨e1,e2,e3⟩:=h_P (d:=d) (x:=x) (o:=o) fun h=>hp h.1;rw [e1,e2,e3];clear e1 e2 e3 h1 h2 h3 hd ho hp;go_enter Tryz.func135,Tryz.ntmps135;go_wp2_with fail
  generalize J:World.alloc _ _=W0;have U:=b_W (w:=w) J (by go_grown);have XA:Hid (Cel W0 w.heap.size (.slice p n c) (.slice p2 I c2)):=a_F J (by simp [go_sem]);have XR:Hid (Cel W0 (w.heap.size+1) (.slice none 0 0) (.slice none 0 0)):=a_F J (by simp [go_sem]);clear J;refine (cA W0 U.out).mono ?_;rintro e w1 ⟨rfl,O⟩;have M:=a_N (a_c U.out O) O;clear O;have xr:=(XR.out.up M.out.2)
  have BF:=a_k (M.out.1) (w.heap.size+1) (by omega) (.slice none 0 0) (.slice none 0 0);have cf:=xr.set (.slice none 0 0) (.slice none 0 0);obtain ⟨r0,r1,r2,r3⟩:=xr;obtain ⟨y0,y1,_,_⟩:=cf;go_wp2;exact bodyPost_ret (v:=.tuple #[.agg #[.slice none 0 0,.slice none 0 0],.int .i64 1]) (by simp [results,Tryz.results135,go_sem,y0,y1]) rfl ⟨_,rfl,TRes.none _ _,BF⟩
end Go.Proofs.YtjlofobnmjompaaGreatDoor.Wd
