/- Tensors: what tens.eachOnce and tens.Turn hand back. -/
import Derived.Test.YtjlofobnmjompaaGreatDoorT03
import Derived.Test.YtjlofobnmjompaaGreatDoorT01
set_option linter.unusedVariables false
set_option linter.unusedSimpArgs false
set_option maxHeartbeats 16000000
set_option maxRecDepth 16000
namespace Go.Proofs.YtjlofobnmjompaaGreatDoor.Wd
open Go.RowKit
/-- An order names each of n places once. -/
abbrev k_5 (o:List Int) (n:Nat):Prop:=o.length=n/\(∀ k,k < n->0<=o.getD k 0/\o.getD k 0 < (n:Int))/\∀ i,i < n->∀ k,k < n->o.getD i 0=o.getD k 0->i=k
/-- The same, of the first m. -/
def q_9 (o:List Int) (n m:Nat):Prop:=(∀ k,k < m->0<=o.getD k 0/\o.getD k 0 < (n:Int))/\∀ i,i < m->∀ k,k < m->o.getD i 0=o.getD k 0->i=k
theorem l_R (o:List Int) (n:Nat):q_9 o n 0:=⟨fun k h=>by omega,fun i h=>by omega⟩
theorem l_S {o:List Int} {n:Nat} (D:o.length=n) (h:q_9 o n n):k_5 o n:=⟨D,h.1,h.2⟩
theorem l_T {o:List Int} {n m:Nat} (h:q_9 o n m) (M:0<=o.getD m 0/\o.getD m 0 < (n:Int)) (J:∀ i,i < m->o.getD i 0≠o.getD m 0):q_9 o n (m+1):=by
 refine ⟨fun k D=>?_,fun i O k D e=>?_⟩
 ·rcases Nat.lt_succ_iff_lt_or_eq.1 D with L|rfl
  ·exact h.1 k L
  ·exact M
 ·rcases Nat.lt_succ_iff_lt_or_eq.1 O with I|rfl
  ·rcases Nat.lt_succ_iff_lt_or_eq.1 D with H|rfl
   ·exact h.2 i I k H e
   ·exact absurd e (J i I)
  ·rcases Nat.lt_succ_iff_lt_or_eq.1 D with H|rfl
   ·exact absurd e.symm (J k H)
   ·rfl
/-- Those that the first k name. -/
def c_Y (o:List Int) (n:Nat):Nat->List Bool
 | 0=>List.replicate n false
 | k+1=>(c_Y o n k).set (o.getD k 0).toNat true
theorem d_x (o:List Int) (n:Nat):∀ k,(c_Y o n k).length=n
 | 0=>by simp [c_Y]
 | k+1=>by rw [c_Y,List.length_set,d_x o n k]
theorem g_h {o:List Int} {n:Nat} (j:Nat) (H:j < n):∀ k,(∀ i,i < k->0<=o.getD i 0)->((c_Y o n k).getD j false=true↔∃ i,i < k/\o.getD i 0=(j:Int))
 | 0,_=>by
  rw [c_Y,a_r _ _ _ (by simp;exact H),List.getElem_replicate];constructor
  ·intro h;cases h
  ·rintro ⟨i,h,_⟩;omega
 | k+1,h=>by
  have J:=g_h j H k fun i O=>h i (by omega);have M:=h k (by omega);rw [c_Y,List.getD_eq_getElem?_getD,List.getElem?_set,d_x];by_cases e:(o.getD k 0).toNat=j
  ·rw [if_pos e,if_pos (by omega)];refine ⟨fun _=>⟨k,by omega,by omega⟩,fun _=>rfl⟩
  ·rw [if_neg e,<- List.getD_eq_getElem?_getD,J];constructor
   ·rintro ⟨i,I,D⟩;exact ⟨i,by omega,D⟩
   ·rintro ⟨i,I,D⟩;rcases Nat.lt_succ_iff_lt_or_eq.1 I with L|rfl
    ·exact ⟨i,L,D⟩
    ·exact absurd (by omega) e
def k_C (l:List Bool):List Value:=l.map Value.bool
/-- A slice of bools of the call's own. -/
def OwnB (W:World) (B:Nat) (v:Value) (l:List Bool):Prop:=W.ownsRow B 4 1 v l.length (k_C l)
theorem OwnB.cell {W:World} {B g n c:Nat} {l:List Bool} (h:OwnB W B (.slice (some ⟨g,0,none⟩) n c) l) (H:l.length=n) (j:Nat) (D:j < n):W.cell? ⟨g,j,none⟩=some (.bool (l.getD j false))/\W.frozen? ⟨g,j,none⟩=false:=by
 subst H;refine ⟨?_,World.ownsRow.frozenAt h j⟩;rw [World.ownsRow.cellAt h j (by omega)];unfold k_C;rw [List.getElem?_map,List.getElem?_eq_getElem D,List.getD_eq_getElem?_getD,List.getElem?_eq_getElem D];rfl
theorem OwnB.store {W:World} {B g n c:Nat} {l:List Bool} (h:OwnB W B (.slice (some ⟨g,0,none⟩) n c) l) (D:l.length=n) (j:Nat) (x:Bool):OwnB (W.setCell ⟨g,j,none⟩ (.bool x)) B (.slice (some ⟨g,0,none⟩) n c) (l.set j x):=by
 subst D;have:=(World.ownsRow.stored h j (.bool x)).1;unfold OwnB;rw [List.length_set,show k_C (l.set j x)=(k_C l).set j (.bool x) by unfold k_C;rw [List.map_set]];exact this
theorem s_U:∃ D,Tryz.prog.info? 4=some D/\D.zero=some (.bool false)/\D.size=1/\D.bytes=1:=by
 have h:(Tryz.prog.info? 4).map (fun i=>(i.zero,i.size,i.bytes))=some (some (.bool false),1,1):=by kernel_rfl
 cases H:Tryz.prog.info? 4 with
 | none=>rw [H] at h;cases h
 | some i=>
  rw [H] at h;simp only [Option.map_some,Option.some.injEq,Prod.mk.injEq] at h;exact ⟨i,rfl,h.1,h.2.1,h.2.2⟩
theorem n_1 {W:World} {B g n:Nat} (h:W.ownsRow B 4 1 (.slice (some ⟨g,0,none⟩) n n) n (madeCells (Value.bool false).cells (n*1)).toList):Hid (OwnB W B (.slice (some ⟨g,0,none⟩) n n) (List.replicate n false)):=by
 show OwnB _ _ _ _;unfold OwnB k_C;rw [List.length_replicate,List.map_replicate]
 have D:(madeCells (Value.bool false).cells (n*1)).toList=List.replicate n (Value.bool false):=by
  rw [Nat.mul_one];exact toList_madeCells_one _ _
 rw [D] at h;exact h
theorem n_2 (v:Value) (o:List Int) (ho:RI o) (n:Nat) (hn:n<=4) (w:World) (hv:Nums .i64 w v o):
  Calls Tryz.prog 165 #[v,.int .i64 (n:Int)] w fun e w'=>e = .returned (.bool (decide (k_5 o n)))/\Below w.heap.size w w':=by
 obtain ⟨p,m,c,rfl,HO⟩:=hv.lst;obtain ⟨r,er⟩:∃ r:Bool,decide (k_5 o n)=r:=⟨_,rfl⟩
 have J:Hid (decide (k_5 o n)=r/\RI o/\o.length=m):=⟨er,ho,HO.out.1⟩
 rw [er];clear er hv ho;have am:(n:Int)<=4:=by omega
 by_cases O:m=n
 ·subst O;obtain ⟨i0,U,aa,af,ab⟩:=s_U;go_enter Tryz.func165,Tryz.ntmps165;go_wp2_with (at_make;refine wpList_make_full w rfl (.tmp 12) (.tmp 12) 105 rfl w.heap.size 4 i0 (.bool false) 1 Tryz.underlying105 U aa af .i64 .i64 m m m rfl rfl rfl rfl (by rw [ab];omega) (by unfold maxLen;omega) (Nat.le_refl _) ?_;intro w1 D I;have B1:Below w.heap.size w w1:=Below.grown (Below.refl _ _) I (Nat.le_refl _) (fun j hj=>by cases hj);have H1:=n_1 D;clear D I)
  go_loopg [16] m (fun gg i wr=>∃ (k:Nat),k<=m/\gg=m - k/\i = .int .i64 (k:Int)/\Hid (q_9 o m k)/\Hid (OwnB wr w.heap.size (.slice (some ⟨w.heap.size,0,none⟩) m m) (c_Y o m k))/\Hid (Below w.heap.size w wr))
  case atStart=>exact ⟨0,by omega,by omega,by first|rfl|simp,l_R _ _,H1,B1⟩
  case round=>
   obtain ⟨k,hk,hg,rfl,HK,HB,M⟩:=hrel;by_cases H:k < m
   ·have ao:(k:Int) < (m:Int):=by omega
    obtain ⟨q,of,rfl,R⟩:=HO.out.2 k H;have ae:=a_d R M.out;have ry:=J.out.2.1.at k (by rw [J.out.2.2];exact H);obtain ⟨y,ey⟩:∃ y,o.getD k 0=y:=⟨_,rfl⟩
    have L:Hid (o.getD k 0=y):=ey;rw [ey] at ae ry;clear ey R;by_cases ak:y < 0
    ·go_wp2;go_ret;rw [<- J.out.1,decide_eq_false (fun h:k_5 o m=>by have:=(h.2.1 k H).1;rw [L.out] at this;omega)];exact ⟨rfl,M.out⟩
    by_cases ai:(m:Int)<=y
    ·go_wp2;go_ret;rw [<- J.out.1,decide_eq_false (fun h:k_5 o m=>by have:=(h.2.1 k H).2;rw [L.out] at this;omega)];exact ⟨rfl,M.out⟩
    obtain ⟨j,ej⟩:∃ j:Nat,y=(j:Int):=⟨y.toNat,by omega⟩
    subst ej;have hj:j < m:=by omega
    have aj:(j:Int) < (m:Int):=by omega
    obtain ⟨D,ah⟩:=HB.out.cell (d_x _ _ _) j hj;have hN:=g_h (o:=o) (n:=m) j hj k fun i U=>(HK.out.1 i U).1;by_cases hb:(c_Y o m k).getD j false=true
    ·rw [hb] at D;have Hb:Hid (∃ i,i < k/\o.getD i 0=(j:Int)):=hN.1 hb;clear hb hN;go_wp2;go_ret
     rw [<- J.out.1,decide_eq_false (fun h:k_5 o m=>by
      obtain ⟨i,h1,h2⟩:=Hb.out;have:=h.2.2 i (by omega) k H (by rw [h2,L.out]);omega)]
     exact ⟨rfl,M.out⟩
    ·have V:(c_Y o m k).getD j false=false:=by simpa using hb
     rw [V] at D
     have H2:Hid (OwnB (wr.setCell ⟨w.heap.size,j,none⟩ (.bool true)) w.heap.size (.slice (some ⟨w.heap.size,0,none⟩) m m) (c_Y o m (k+1))):=by
      have:=HB.out.store (d_x _ _ _) j true;show OwnB _ _ _ _;rw [c_Y,L.out,Int.toNat_natCast];exact this
     have ad:Hid (q_9 o m (k+1)):=l_T HK.out (by rw [L.out];omega) fun i U e=>hb (hN.2 ⟨i,U,by rw [e,L.out]⟩);have ac:Hid (Below w.heap.size w (wr.setCell ⟨w.heap.size,j,none⟩ (.bool true))):=M.out.setCell (p:=⟨w.heap.size,j,none⟩) (Nat.le_refl _) _;clear hb V hN;go_wp2;go_roundg (m - (k+1))
     case measure=>omega
     case rel=>exact ⟨k+1,by omega,rfl,by first|rfl|simp,ad,H2,ac⟩
   ·obtain rfl:k=m:=by omega
    go_wp2;go_ret;rw [<- J.out.1,decide_eq_true (l_S J.out.2.2 HK.out)];exact ⟨rfl,M.out⟩
 ·have an:((m:Int) != (n:Int))=true:=by simp;omega
  have ag:¬ ((m:Int)=(n:Int)):=by omega
  go_enter Tryz.func165,Tryz.ntmps165;go_wp2;go_ret;rw [<- J.out.1,decide_eq_false (fun h:k_5 o n=>O (by rw [<- J.out.2.2];exact h.1))];exact ⟨rfl,Below.refl _ _⟩
abbrev f_Z (d x o:List Int):Prop:=isP d x/\k_5 o d.length
def h_L (d x o:List Int):Int:=if f_Z d x o then 0 else 1
def g_Y (d x o:List Int):List Int:=if f_Z d x o then itl (b_7 (ntl d) (ntl o)) else []
def e_L (d x o:List Int):List Int:=if f_Z d x o then (List.range (a_e (ntl d))).map fun i=>x.getD (f_i (ntl d) (ntl o) i) 0 else []
theorem h_M {d x o:List Int} (h:¬ f_Z d x o):h_L d x o=1/\g_Y d x o = []/\e_L d x o = []:=⟨if_neg h,if_neg h,if_neg h⟩
/-- The sides may change places so. -/
structure Turns (d x o:List Int) (a r:List Nat):Prop where
 da:d=itl a
 dr:o=itl r
 ga:goodN a
 or:d_H a.length r
 lx:x.length=a_e a
theorem s_V {d x o:List Int} (h:f_Z d x o):∃ a r,Turns d x o a r:=by
 obtain ⟨⟨R,M⟩,O,D,L⟩:=h;obtain ⟨a,U,rfl⟩:=b_k R;rw [a_o] at M;rw [a_v] at O D L
 have V:o=itl (ntl o):=by
  refine List.ext_getElem (by rw [a_v,a_Q]) fun i H J=>?_;have:=(D i (by omega)).1;rw [<- a_r o i 0 H,<- a_r (itl (ntl o)) i 0 J,a_O,d_Z o i H];omega
 refine ⟨a,ntl o,rfl,V,U,?_,M⟩;refine n_x (by rw [a_Q];exact O) (fun k I=>?_) fun i k H I e=>?_
 ·rw [d_Z o k (by omega)];have:=D k I;omega
 ·rw [d_Z o i (by omega),d_Z o k (by omega)] at e;have e1:=D i H;have e2:=D k I;exact L i H k I (by omega)
theorem Turns.V {d x o:List Int} {a r:List Nat} (h:Turns d x o a r) (D:f_Z d x o):h_L d x o=0/\g_Y d x o=itl (b_7 a r)/\e_L d x o=(List.range (a_e a)).map fun i=>x.getD (f_i a r i) 0:=by
 unfold h_L g_Y e_L;rw [if_pos D,if_pos D,if_pos D,h.da,h.dr,a_o,a_o];exact ⟨rfl,rfl,rfl⟩
theorem n_3 {P:Program} {t e:TypeId} {k:IntKind} {b:Nat} (T:NumT P t e k b) (L:b<=8) (n:Nat) (hn:n<=1073741824) (O U:IntKind) (W:World):(Instr.makeSlice t (.int O (n:Int)) (.int U (n:Int))).run P W = .ok (.slice (some ⟨W.heap.size,0,none⟩) n n) (W.alloc (.cells (b_c k (List.replicate n 0)).toArray e)):=by
 obtain ⟨D,hi,H,J,I⟩:=g_x T;have hm:b*n<=8*1073741824:=Nat.mul_le_mul L hn
 have M:(D.bytes:Int)*(n:Int)<=281474976710656:=by
  have h:((D.bytes*n:Nat):Int)<=281474976710656:=by rw [I];omega
  rwa [Int.natCast_mul] at h
 have R:=run_make (P:=P) W t e D (.int k 0) T.ht hi H O U n n (by omega) (Int.le_refl _) M (by omega);simp only [Int.toNat_natCast] at R;rw [R]
 have V:(madeCells (Value.int k 0).cells (n*D.size))=(b_c k (List.replicate n 0)).toArray:=by
  rw [J,Nat.mul_one];apply Array.toList_inj.1;have:=toList_madeCells_one (Value.int k 0) n;rw [show (Value.int k 0).cells=#[Value.int k 0] from rfl,this];unfold b_c;rw [List.map_replicate]
 rw [V]
theorem j_J {k:IntKind} {e:TypeId} {w3 W4:World} {n:Nat} (J:n<=1073741824) (h:((w3.alloc (.cells (b_c k (List.replicate n 0)).toArray e)).alloc (.cells (b_c k (List.replicate n 0)).toArray e)).drew=W4):
  Below w3.heap.size w3 W4/\OwnK k e W4 w3.heap.size (.slice (some ⟨w3.heap.size,0,none⟩) n n) (List.replicate n 0)/\OwnK k e W4 w3.heap.size (.slice (some ⟨w3.heap.size+1,0,none⟩) n n) (List.replicate n 0):=by
 have L:=a_b w3 (.cells (b_c k (List.replicate n 0)).toArray e);have H:=a_b (w3.alloc (.cells (b_c k (List.replicate n 0)).toArray e)) (.cells (b_c k (List.replicate n 0)).toArray e)
 have D:Below ((w3.alloc (.cells (b_c k (List.replicate n 0)).toArray e)).alloc (.cells (b_c k (List.replicate n 0)).toArray e)).heap.size ((w3.alloc (.cells (b_c k (List.replicate n 0)).toArray e)).alloc (.cells (b_c k (List.replicate n 0)).toArray e)) W4:=by
  rw [<- h];exact ⟨rfl,rfl,rfl,Nat.le_refl _,fun _ _=>rfl⟩
 have M:=b_5 (k:=k) (e:=e) w3 (List.replicate n 0) n (by simp) J;have O:=b_5 (k:=k) (e:=e) (w3.alloc (.cells (b_c k (List.replicate n 0)).toArray e)) (List.replicate n 0) n (by simp) J;have I:(w3.alloc (.cells (b_c k (List.replicate n 0)).toArray e)).heap.size=w3.heap.size+1:=Array.size_push _;refine ⟨a_c (a_c L H) D,(M.up H).up D,?_⟩;have:=(O.up D).low (show w3.heap.size<=_ by rw [I];omega);rw [I] at this;exact this
theorem l_U (p p2 p3:Option Addr) (n c J c2 n3 c3:Nat) (d x o:List Int) (hd:RI d) (ho:RI o) (w:World) (h1:Nums .i64 w (.slice p n c) d) (h2:Nums .i64 w (.slice p2 J c2) x) (h3:Nums .i64 w (.slice p3 n3 c3) o):
  Calls Tryz.prog 135 #[.agg #[.slice p n c,.slice p2 J c2],.slice p3 n3 c3] w fun e w'=>∃ v',e = .returned (.tuple #[v',.int .i64 (h_L d x o)])/\TRes w' w.heap.size v' (g_Y d x o) (e_L d x o)/\Below w.heap.size w w':=by
 have cA:=fun W (hW:Below w.heap.size w W)=>a_D _ _ d x hd W (h1.up hW) (h2.up hW);have HN:Hid (Nums .i64 w (.slice p n c) d/\Nums .i64 w (.slice p2 J c2) x/\Nums .i64 w (.slice p3 n3 c3) o):=⟨h1,h2,h3⟩
 obtain ⟨_,_,_,e4,HD⟩:=h1.lst;cases e4;obtain ⟨_,_,_,e4,HX⟩:=h2.lst;cases e4;obtain ⟨_,_,_,e4,HO⟩:=h3.lst;cases e4;by_cases hp:isP d x
 ·rw [decide_eq_true hp] at cA;have hn:n<=4:=by rw [<- HD.out.1,<- a_Q d];exact hp.1.1
  have bl:(n:Int)<=4:=by omega
  have cB:=fun W (hW:Below w.heap.size w W)=>n_2 _ o ho n hn W (h3.up hW);by_cases hq:k_5 o n
  ·rw [decide_eq_true hq] at cB;have ht:f_Z d x o:=⟨hp,by rw [HD.out.1];exact hq⟩
   obtain ⟨a,r,hT⟩:=s_V ht;obtain ⟨e1,e2,e3⟩:=hT.V ht;rw [e1,e2,e3]
   have cS:∀ W,Below w.heap.size w W->Calls Tryz.prog 160 #[.slice p n c] W fun e w'=>∃ v',e = .returned v'/\OwnK .i64 3 w' W.heap.size v' (itl (a_w a))/\Below W.heap.size W w':=fun W hW=>by
    have:=f_d _ d hd W (h1.up hW);rw [hT.da,show c_H (itl a)=itl (a_w a) by unfold c_H;rw [a_o,if_pos hT.ga]] at this;exact this
   have ha:a.length=n:=by rw [<- HD.out.1,hT.da,a_v]
   have a4:n=n3:=by rw [<- HO.out.1];exact hq.1.symm
   subst a4;obtain ⟨N,eN⟩:∃ N,a_e a=N:=⟨_,rfl⟩
   have a8:J=N:=by rw [<- HX.out.1,hT.lx,eN]
   subst a8;obtain ⟨D,eD⟩:∃ D,itl (b_7 a r)=D:=⟨_,rfl⟩
   obtain ⟨T,eT⟩:∃ T,itl (f_T a r)=T:=⟨_,rfl⟩
   obtain ⟨V,eV⟩:∃ V,((List.range J).map fun i=>x.getD (f_i a r i) 0)=V:=⟨_,rfl⟩
   have H:Hid (Turns d x o a r/\a.length=n/\a_e a=J/\itl (b_7 a r)=D/\itl (f_T a r)=T/\((List.range J).map fun i=>x.getD (f_i a r i) 0)=V/\D.length=n/\T.length=n/\V.length=J):=⟨hT,ha,eN,eD,eT,eV,by rw [<- eD,a_v,b_E,hT.or.1,ha],by rw [<- eT,a_v,f_n,hT.or.1,ha],by rw [<- eV];simp⟩
   have hN:1<=J/\J<=4096:=by rw [<- eN];exact ⟨hT.ga.pos,hT.ga.2.2⟩
   have bi:1<=(J:Int)/\(J:Int)<=4096:=by omega
   rw [eN,eD,eV];obtain ⟨MK,aY⟩:∃ MK,b_c .i64 (List.replicate n 0)=MK:=⟨_,rfl⟩
   have aH:Hid (b_c .i64 (List.replicate n 0)=MK):=aY;clear e1 e2 e3 hp hq ht h1 h2 h3 hd ho eN eD eT eV hT ha aY;go_enter Tryz.func135,Tryz.ntmps135;go_wp2_with fail
   generalize L:World.alloc _ _=W0;have aa:=b_C (w:=w) L (by go_grown);have XA:Hid (Cel W0 w.heap.size (.slice p n c) (.slice p2 J c2)):=a_y L (by simp [go_sem]);have XR:Hid (Cel W0 (w.heap.size+1) (.slice none 0 0) (.slice none 0 0)):=a_y L (by simp [go_sem]);clear L;refine (cA W0 aa.out).mono ?_;rintro e w1 ⟨rfl,R⟩;have O:=a_M (a_c aa.out R) R;clear R;clear cA;obtain ⟨a0,a1,_,_⟩:=XA.out.up O.out.2;go_wp2_with fail
   refine (cB w1 O.out.1).mono ?_;rintro e w2 ⟨rfl,af⟩;have ai:=a_M (a_c O.out.1 af) (a_c O.out.2 af);clear af a0 a1 cB;obtain ⟨a0,a1,_,_⟩:=XA.out.up ai.out.2;go_wp2_with fail
   refine (cS w2 ai.out.1).mono ?_;rintro e w3 ⟨vs,rfl,aK,aI⟩;have ag:=a_M (a_c ai.out.1 aI) (a_c ai.out.2 aI);have ba:Hid (OwnK .i64 3 w3 w2.heap.size vs (itl (a_w a))):=aK;clear aI aK a0 a1 cS;obtain ⟨a0,a1,_,_⟩:=XA.out.up ag.out.2;have aR:∀ W,(Instr.makeSlice 30 (.int .i64 (n:Int)) (.int .i64 (n:Int))).run Tryz.prog W = .ok (.slice (some ⟨W.heap.size,0,none⟩) n n) (W.alloc (.cells MK.toArray 3)):=fun W=>by rw [<- aH.out];exact n_3 i_e (by decide) n (by omega) .i64 .i64 W
   go_wp2_with fail
   go_region;generalize ar:World.drew _=W4;obtain ⟨ao,O1,O2⟩:=j_J (k:=.i64) (e:=3) (w3:=w3) (W4:=W4) (n:=n) (by omega) (by rw [aH.out];exact ar);obtain ⟨I,U⟩:∃ I,w3.heap.size=I:=⟨_,rfl⟩
   obtain ⟨M,ah⟩:∃ M,w3.heap.size+1=M:=⟨_,rfl⟩
   have ae:Hid (Below w3.heap.size w3 W4/\w3.heap.size<=I/\w3.heap.size<=M/\I≠M):=⟨ao,by omega,by omega,by omega⟩
   rw [ah,U]
   have aS:Hid (OwnK .i64 3 W4 w3.heap.size (.slice (some ⟨I,0,none⟩) n n) (b_K D 0)/\OwnK .i64 3 W4 w3.heap.size (.slice (some ⟨M,0,none⟩) n n) (b_K T 0)):=by
    rw [a_Z,a_Z,H.out.2.2.2.2.2.2.1,H.out.2.2.2.2.2.2.2.1,<- U,<- ah];exact ⟨O1,O2⟩
   clear ar ao O1 O2 U ah aR a0 a1;rotate_left;generalize ar:World.drew _=W4;obtain ⟨ao,O1,O2⟩:=j_J (k:=.i64) (e:=3) (w3:=w3) (W4:=W4) (n:=n) (by omega) (by rw [aH.out];exact ar);obtain ⟨I,U⟩:∃ I,w3.heap.size+1=I:=⟨_,rfl⟩
   obtain ⟨M,ah⟩:∃ M,w3.heap.size=M:=⟨_,rfl⟩
   have ae:Hid (Below w3.heap.size w3 W4/\w3.heap.size<=I/\w3.heap.size<=M/\I≠M):=⟨ao,by omega,by omega,by omega⟩
   rw [U,ah]
   have aS:Hid (OwnK .i64 3 W4 w3.heap.size (.slice (some ⟨I,0,none⟩) n n) (b_K D 0)/\OwnK .i64 3 W4 w3.heap.size (.slice (some ⟨M,0,none⟩) n n) (b_K T 0)):=by
    rw [a_Z,a_Z,H.out.2.2.2.2.2.2.1,H.out.2.2.2.2.2.2.2.1,<- U,<- ah];exact ⟨O2,O1⟩
   clear ar ao O1 O2 U ah aR a0 a1
   all_goals
    go_wp2_with fail
    go_loopg [37] n (fun gg i wr=>∃ (k:Nat),k<=n/\gg=n - k/\i = .int .i64 (k:Int)/\Hid (OwnK .i64 3 wr w3.heap.size (.slice (some ⟨I,0,none⟩) n n) (b_K D k)/\OwnK .i64 3 wr w3.heap.size (.slice (some ⟨M,0,none⟩) n n) (b_K T k))/\Hid (Below w3.heap.size w3 wr))
    case atStart=>exact ⟨0,by omega,by omega,by first|rfl|simp,aS,ae.out.1⟩
    case round=>
     obtain ⟨k,hk,hg,rfl,HG,hB⟩:=hrel;obtain ⟨R1,be⟩:∃ R1:World,R1=wr:=⟨_,rfl⟩
     subst be;by_cases am:k < n
     ·have bo:(k:Int) < (n:Int):=by omega
      obtain ⟨q3,o3,rfl,aN⟩:=HO.out.2 k am;have aM:=a_d aN (a_c ag.out.1 hB.out);have ab:=H.out.1.or;rw [H.out.2.1] at ab;have aF:k < r.length:=by rw [ab.1];exact am
      rw [H.out.1.dr,a_O] at aM;obtain ⟨j,ej⟩:∃ j,r.getD k 0=j:=⟨_,rfl⟩
      have hj:j < n:=by
       rw [<- ej,a_r r k 0 aF];exact ab.2.1 _ (List.getElem_mem _)
      rw [ej] at aM;have bj:(j:Int) < (n:Int):=by omega
      obtain ⟨qd,od,rfl,aZ⟩:=HD.out.2 j hj;have aQ:=a_d aZ (a_c ag.out.1 hB.out);rw [H.out.1.da,a_O] at aQ;obtain ⟨_,_,_,bb,aC⟩:=(ba.out.up hB.out).nums.lst;subst bb;have aV:=aC.out.1;rw [a_v,b_R,H.out.2.1] at aV;subst aV;obtain ⟨qt,ot,rfl,aP⟩:=aC.out.2 j hj;rw [a_O] at aP;obtain ⟨A,eA⟩:∃ A,a.getD j 0=A:=⟨_,rfl⟩
      obtain ⟨S,eS⟩:∃ S,(a_w a).getD j 0=S:=⟨_,rfl⟩
      rw [eA] at aQ;rw [eS] at aP
      have av:Hid (D.getD k 0=(A:Int)/\T.getD k 0=(S:Int)):=by
       refine ⟨?_,?_⟩
       ·rw [<- H.out.2.2.2.1,a_O,f_f a r k aF,ej,eA]
       ·rw [<- H.out.2.2.2.2.1,a_O,h_A a r k aF,ej,eS]
      obtain ⟨bm,bq⟩:=HG.out.1.cell (by rw [a_B];exact H.out.2.2.2.2.2.2.1) k am;obtain ⟨br,bk⟩:=HG.out.2.cell (by rw [a_B];exact H.out.2.2.2.2.2.2.2.1) k am;have aB:=ae.out.2.2.2;have bg:¬ M=I:=fun h=>aB h.symm
      have H5:Hid (OwnK .i64 3 ((R1.setCell ⟨I,k,none⟩ (.int .i64 (A:Int))).setCell ⟨M,k,none⟩ (.int .i64 (S:Int))) w3.heap.size (.slice (some ⟨I,0,none⟩) n n) (b_K D (k+1))/\OwnK .i64 3 ((R1.setCell ⟨I,k,none⟩ (.int .i64 (A:Int))).setCell ⟨M,k,none⟩ (.int .i64 (S:Int))) w3.heap.size (.slice (some ⟨M,0,none⟩) n n) (b_K T (k+1))):=by
       have h1:=HG.out.1.store (by rw [a_B];exact H.out.2.2.2.2.2.2.1) k (A:Int);rw [<- av.out.1,b_r D k (by rw [H.out.2.2.2.2.2.2.1];exact am),av.out.1] at h1;have h2:=(HG.out.2.stay ((Stay.refl I R1).set k (.int .i64 (A:Int))) (fun ad n1 c1 e1=>by cases e1;exact fun h=>aB h.symm)).store (by rw [a_B];exact H.out.2.2.2.2.2.2.2.1) k (S:Int);rw [<- av.out.2,b_r T k (by rw [H.out.2.2.2.2.2.2.2.1];exact am),av.out.2] at h2;exact ⟨h1.stay ((Stay.refl M _).set k (.int .i64 (S:Int))) (fun ad n1 c1 e1=>by cases e1;exact aB),h2⟩
      have H6:Hid (Below w3.heap.size w3 ((R1.setCell ⟨I,k,none⟩ (.int .i64 (A:Int))).setCell ⟨M,k,none⟩ (.int .i64 (S:Int)))):=(hB.out.setCell (p:=⟨I,k,none⟩) ae.out.2.1 _).setCell (p:=⟨M,k,none⟩) ae.out.2.2.1 _;obtain ⟨a0,a1,_,_⟩:=XA.out.up (a_c ag.out.2 hB.out);clear aN aZ eA eS ej ab aC;have BD:Below ((R1.setCell ⟨I,k,none⟩ (.int .i64 (A:Int))).setCell ⟨M,k,none⟩ (.int .i64 (S:Int))).heap.size ((R1.setCell ⟨I,k,none⟩ (.int .i64 (A:Int))).setCell ⟨M,k,none⟩ (.int .i64 (S:Int))) ((R1.setCell ⟨I,k,none⟩ (.int .i64 (A:Int))).setCell ⟨M,k,none⟩ (.int .i64 (S:Int))).drew:=⟨rfl,rfl,rfl,Nat.le_refl _,fun _ _=>rfl⟩
      have H7:Hid (OwnK .i64 3 ((R1.setCell ⟨I,k,none⟩ (.int .i64 (A:Int))).setCell ⟨M,k,none⟩ (.int .i64 (S:Int))).drew w3.heap.size (.slice (some ⟨I,0,none⟩) n n) (b_K D (k+1))/\OwnK .i64 3 ((R1.setCell ⟨I,k,none⟩ (.int .i64 (A:Int))).setCell ⟨M,k,none⟩ (.int .i64 (S:Int))).drew w3.heap.size (.slice (some ⟨M,0,none⟩) n n) (b_K T (k+1))):=⟨H5.out.1.up BD,H5.out.2.up BD⟩
      have H8:Hid (Below w3.heap.size w3 ((R1.setCell ⟨I,k,none⟩ (.int .i64 (A:Int))).setCell ⟨M,k,none⟩ (.int .i64 (S:Int))).drew):=H6.out.trans (BD.mono H6.out.size);clear BD H5 H6;go_wp2_with fail
      go_region;go_wp2;go_roundg (n - (k+1))
      case measure=>omega
      case rel=>exact ⟨k+1,by omega,rfl,by first|rfl|simp,H7,H8⟩
     ·obtain rfl:k=n:=by omega
      have aj:=HG.out.1;have aD:=HG.out.2;rw [<- H.out.2.2.2.2.2.2.1,b_e,H.out.2.2.2.2.2.2.1] at aj;rw [<- H.out.2.2.2.2.2.2.2.1,b_e,H.out.2.2.2.2.2.2.2.1] at aD;have au:Hid (OwnK .i64 3 R1 w3.heap.size (.slice (some ⟨I,0,none⟩) k k) D/\OwnK .i64 3 R1 w3.heap.size (.slice (some ⟨M,0,none⟩) k k) T):=⟨aj,aD⟩
      have ak:Hid (Below w.heap.size w R1/\Below W0.heap.size W0 R1):=⟨a_c ag.out.1 hB.out,a_c ag.out.2 hB.out⟩
      obtain ⟨a0,a1,_,_⟩:=XA.out.up ak.out.2;clear aj aD;go_wp2_with (at_make;refine a_z k_u (by decide) _ rfl (.tmp 60) (.tmp 60) rfl .i64 .i64 J J J rfl rfl rfl rfl (by omega) w.heap.size w ak.out.1.size ak.out.1 ?_;intro w6 ax B6 a9;clear a9)
      have aU:=a_M (a_c ak.out.1 B6) (a_c ak.out.2 B6);have aw:Hid (OwnK .i64 3 w6 w3.heap.size (.slice (some ⟨I,0,none⟩) k k) D/\OwnK .i64 3 w6 w3.heap.size (.slice (some ⟨M,0,none⟩) k k) T):=⟨au.out.1.up B6,au.out.2.up B6⟩
      obtain ⟨g,hg⟩:∃ g,R1.heap.size=g:=⟨_,rfl⟩
      have hz:=a_a XR.out.1;have U:=au.out.1.size;have Hg:Hid (W0.heap.size<=g/\w.heap.size+1 < W0.heap.size/\W0.heap.size<=w3.heap.size/\I < g/\g < w6.heap.size):=⟨by rw [<- hg];exact ak.out.2.size,hz,ag.out.2.size,by rw [<- hg];exact U,by rw [<- hg];exact ax.out.size⟩
      rw [hg] at ax ⊢;have ab:=H.out.1.or;have cW:=j_t (.slice (some ⟨I,0,none⟩) k k) (.slice (some ⟨M,0,none⟩) k k) (b_7 a r) (f_T a r) (f_h H.out.1.ga ab) (by rw [b_E,f_n]) (n_z H.out.1.ga r) w6 (by rw [H.out.2.2.2.1];exact aw.out.1.nums) (by rw [H.out.2.2.2.2.1];exact aw.out.2.nums);refine cW.mono ?_;rintro e w7 ⟨vw,rfl,h7,aq⟩;obtain ⟨pw,nw,cw,rfl,aJ⟩:=h7.nums.lst;have a6:J=nw:=by rw [<- aJ.out.1,a_v,h_z,d_p ab,H.out.2.2.1]
      subst a6;have aT:Hid (OwnK .i64 3 w7 w6.heap.size (.slice pw J cw) (itl (f_l (b_7 a r) (f_T a r)))):=h7;have aG:=a_M (a_c aU.out.1 aq) (a_c aU.out.2 aq)
      have a3:Hid (OwnK .i64 23 w7 g (.slice (some ⟨g,0,none⟩) J J) (b_K V 0)):=by
       show OwnK _ _ _ _ _ _;rw [a_Z,H.out.2.2.2.2.2.2.2.2];exact ax.out.up aq
      have aX:Hid (Cel w7 w.heap.size (.slice p k c) (.slice p2 J c2)/\Cel w7 (w.heap.size+1) (.slice none 0 0) (.slice none 0 0)):=⟨XA.out.up aG.out.2,XR.out.up aG.out.2⟩
      have a5:Hid (OwnK .i64 3 w7 w3.heap.size (.slice (some ⟨I,0,none⟩) k k) D):=aw.out.1.up aq;clear cW h7 aq aJ a0 a1 ax B6 hg hz U ab au aw;go_wp2_with fail
      go_loopg [66] J (fun gg i wr=>∃ (m:Nat),m<=J/\gg=J - m/\i = .int .i64 (m:Int)/\Hid (OwnK .i64 23 wr g (.slice (some ⟨g,0,none⟩) J J) (b_K V m))/\Hid (Below w.heap.size w wr/\Stay g w7 wr))
      case atStart=>exact ⟨0,by omega,by omega,by first|rfl|simp,a3,aG.out.1,Stay.refl _ _⟩
      case round=>
       obtain ⟨m,hm,hg,rfl,aA,ac⟩:=hrel;obtain ⟨R2,a7⟩:∃ R2:World,R2=wr:=⟨_,rfl⟩
       subst a7;by_cases an:m < J
       ·have bp:(m:Int) < (J:Int):=by omega
        obtain ⟨_,_,_,e4,a2⟩:=(aT.out.nums.stay ac.out.2 (aT.out.off Hg.out.2.2.2.2)).lst;cases e4;obtain ⟨qa,oa,rfl,aO⟩:=a2.out.2 m an;have aE:m < a_e a:=by rw [H.out.2.2.1];exact an
        rw [a_O,l_s H.out.1.ga H.out.1.or m aE] at aO;have ia:=n_y H.out.1.ga H.out.1.or m aE;rw [H.out.2.2.1] at ia;obtain ⟨i,ei⟩:∃ i,f_i a r m=i:=⟨_,rfl⟩
        rw [ei] at aO ia;have bn:(i:Int) < (J:Int):=by omega
        obtain ⟨qx,ox,rfl,aL⟩:=HX.out.2 i ia;have bc:=a_d aL ac.out.1;obtain ⟨X,eX⟩:∃ X,x.getD i 0=X:=⟨_,rfl⟩
        rw [eX] at bc
        have HZ:Hid (V.getD m 0=X):=by
         show _=_;rw [<- H.out.2.2.2.2.2.1,a_I _ _ _ _ an,ei,eX]
        obtain ⟨bf,bh⟩:=aA.out.cell (by rw [a_B];exact H.out.2.2.2.2.2.2.2.2) m an
        have H5:Hid (OwnK .i64 23 (R2.setCell ⟨g,m,none⟩ (.int .i64 X)) g (.slice (some ⟨g,0,none⟩) J J) (b_K V (m+1))):=by
         have:=aA.out.store (by rw [a_B];exact H.out.2.2.2.2.2.2.2.2) m X;rw [<- HZ.out,b_r V m (by rw [H.out.2.2.2.2.2.2.2.2];exact an)] at this;rw [<- HZ.out];exact this
        have aW:w.heap.size<=g:=by have:=Hg.out;omega
        have H6:Hid (Below w.heap.size w (R2.setCell ⟨g,m,none⟩ (.int .i64 X))/\Stay g w7 (R2.setCell ⟨g,m,none⟩ (.int .i64 X))):=⟨ac.out.1.setCell (p:=⟨g,m,none⟩) aW _,ac.out.2.set _ _⟩
        have ay:w.heap.size≠g:=by have:=Hg.out;omega
        obtain ⟨a0,a1,_,_⟩:=aX.out.1.stay ac.out.2 ay;clear eX ei aL a2 ay aW aE;go_wp2;go_roundg (J - (m+1))
        case measure=>omega
        case rel=>exact ⟨m+1,by omega,rfl,by first|rfl|simp,H5,H6⟩
       ·obtain rfl:m=J:=by omega
        have az:w.heap.size+1≠g:=by have:=Hg.out;omega
        have bd:Hid (Cel R2 (w.heap.size+1) (.slice none 0 0) (.slice none 0 0)):=aX.out.2.stay ac.out.2 az;have ap:=aA.out;rw [<- H.out.2.2.2.2.2.2.2.2,b_e,H.out.2.2.2.2.2.2.2.2] at ap;have aj:=a5.out.stay ac.out.2 (fun ad n1 c1 e1=>by cases e1;have:=Hg.out.2.2.2.1;show I≠g;omega)
        have HF:Hid (TRes (set2 R2 (w.heap.size+1) (.slice (some ⟨I,0,none⟩) k k) (.slice (some ⟨g,0,none⟩) m m)) w.heap.size (.agg #[.slice (some ⟨I,0,none⟩) k k,.slice (some ⟨g,0,none⟩) m m]) D V/\Below w.heap.size w (set2 R2 (w.heap.size+1) (.slice (some ⟨I,0,none⟩) k k) (.slice (some ⟨g,0,none⟩) m m))):=
         ⟨(TRes.set (aj.low Hg.out.2.2.1) (ap.low Hg.out.1) Hg.out.2.1).low aa.out.size,a_j ac.out.1 _ (by omega) _ _⟩
        clear ap aj az;have xr:=bd.out;have cf:=xr.set (.slice (some ⟨I,0,none⟩) k k) (.slice (some ⟨g,0,none⟩) m m);obtain ⟨r0,r1,r2,r3⟩:=xr;obtain ⟨y0,y1,_,_⟩:=cf;go_wp2;exact bodyPost_ret (v:=.tuple #[.agg #[.slice (some ⟨I,0,none⟩) k k,.slice (some ⟨g,0,none⟩) m m],.int .i64 0]) (by simp [results,Tryz.results135,go_sem,y0,y1]) rfl ⟨_,rfl,HF.out⟩
  ·rw [decide_eq_false hq] at cB;obtain ⟨e1,e2,e3⟩:=h_M (d:=d) (x:=x) (o:=o) fun h=>hq (by rw [<- HD.out.1];exact h.2);rw [e1,e2,e3];clear e1 e2 e3 h1 h2 h3 hd ho hp hq;go_enter Tryz.func135,Tryz.ntmps135;go_wp2_with fail
   generalize L:World.alloc _ _=W0;have aa:=b_C (w:=w) L (by go_grown);have XA:Hid (Cel W0 w.heap.size (.slice p n c) (.slice p2 J c2)):=a_y L (by simp [go_sem]);have XR:Hid (Cel W0 (w.heap.size+1) (.slice none 0 0) (.slice none 0 0)):=a_y L (by simp [go_sem]);clear L;refine (cA W0 aa.out).mono ?_;rintro e w1 ⟨rfl,R⟩;have O:=a_M (a_c aa.out R) R;clear R;clear cA;obtain ⟨a0,a1,_,_⟩:=XA.out.up O.out.2;go_wp2_with fail
   refine (cB w1 O.out.1).mono ?_;rintro e w2 ⟨rfl,af⟩;have ai:=a_M (a_c O.out.1 af) (a_c O.out.2 af);clear af a0 a1 cB;have xr:=(XR.out.up ai.out.2)
   have BF:=a_j (ai.out.1) (w.heap.size+1) (by omega) (.slice none 0 0) (.slice none 0 0);have cf:=xr.set (.slice none 0 0) (.slice none 0 0);obtain ⟨r0,r1,r2,r3⟩:=xr;obtain ⟨y0,y1,_,_⟩:=cf;go_wp2;exact bodyPost_ret (v:=.tuple #[.agg #[.slice none 0 0,.slice none 0 0],.int .i64 1]) (by simp [results,Tryz.results135,go_sem,y0,y1]) rfl ⟨_,rfl,TRes.none _ _,BF⟩
 ·rw [decide_eq_false hp] at cA;obtain ⟨e1,e2,e3⟩:=h_M (d:=d) (x:=x) (o:=o) fun h=>hp h.1;rw [e1,e2,e3];clear e1 e2 e3 h1 h2 h3 hd ho hp;go_enter Tryz.func135,Tryz.ntmps135;go_wp2_with fail
  generalize L:World.alloc _ _=W0;have aa:=b_C (w:=w) L (by go_grown);have XA:Hid (Cel W0 w.heap.size (.slice p n c) (.slice p2 J c2)):=a_y L (by simp [go_sem]);have XR:Hid (Cel W0 (w.heap.size+1) (.slice none 0 0) (.slice none 0 0)):=a_y L (by simp [go_sem]);clear L;refine (cA W0 aa.out).mono ?_;rintro e w1 ⟨rfl,R⟩;have O:=a_M (a_c aa.out R) R;clear R;have xr:=(XR.out.up O.out.2)
  have BF:=a_j (O.out.1) (w.heap.size+1) (by omega) (.slice none 0 0) (.slice none 0 0);have cf:=xr.set (.slice none 0 0) (.slice none 0 0);obtain ⟨r0,r1,r2,r3⟩:=xr;obtain ⟨y0,y1,_,_⟩:=cf;go_wp2;exact bodyPost_ret (v:=.tuple #[.agg #[.slice none 0 0,.slice none 0 0],.int .i64 1]) (by simp [results,Tryz.results135,go_sem,y0,y1]) rfl ⟨_,rfl,TRes.none _ _,BF⟩
end Go.Proofs.YtjlofobnmjompaaGreatDoor.Wd
