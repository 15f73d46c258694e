/- Tensors: what tens.eachOnce and tens.Tur -/
import Derived.Test.YtkfpainpomobfaaGreatDoorR07
set_option linter.unusedVariables false
set_option linter.unusedSimpArgs false
set_option maxHeartbeats 16000000
set_option maxRecDepth 16000
namespace Go.Proofs.YtkfpainpomobfaaGreatDoor.Wd
open Go.RowKit List World Nat
/-- An order names each of n places once. -/
abbrev l_E (o:List Int) (n:Nat):Prop:=o.length=n/\(∀ k,k < n->0<=o.getD k 0/\o.getD k 0 < (n:Int))/\∀ i,i < n->∀ k,k < n->o.getD i 0=o.getD k 0->i=k
/-- The same, of the first m. -/
def r_4 (o:List Int) (n m:Nat):Prop:=(∀ k,k < m->0<=o.getD k 0/\o.getD k 0 < (n:Int))/\∀ i,i < m->∀ k,k < m->o.getD i 0=o.getD k 0->i=k
theorem m_J (o:List Int) (n:Nat):r_4 o n 0:=⟨fun k h=>by omega,fun i h=>by omega⟩
theorem m_K {o:List Int} {n:Nat} (A:o.length=n) (h:r_4 o n n):l_E o n:=⟨A,h.1,h.2⟩
theorem m_L {o:List Int} {n m:Nat} (h:r_4 o n m) (L:0<=o.getD m 0/\o.getD m 0 < (n:Int)) (H:∀ i,i < m->o.getD i 0≠o.getD m 0):r_4 o n (m+1):=by
 refine ⟨fun k A=>?_,fun i J k A e=>?_⟩
 ·rcases Nat.lt_succ_iff_lt_or_eq.1 A with M|rfl
  ·exact h.1 k M
  ·exact L
 ·rcases Nat.lt_succ_iff_lt_or_eq.1 J with I|rfl
  ·rcases Nat.lt_succ_iff_lt_or_eq.1 A with E|rfl
   ·exact h.2 i I k E e
   ·exact absurd e (H i I)
  ·rcases Nat.lt_succ_iff_lt_or_eq.1 A with E|rfl
   ·exact absurd e.symm (H k E)
   ·rfl
/-- Those that the first k name. -/
def d_j (o:List Int) (n:Nat):Nat->List Bool
 | 0=>replicate n false
 | k+1=>(d_j o n k).set (o.getD k 0).toNat true
theorem d_Z (o:List Int) (n:Nat):∀ k,(d_j o n k).length=n
 | 0=>by simp [d_j]
 | k+1=>by rw [d_j,length_set,d_Z o n k]
theorem g_U {o:List Int} {n:Nat} (j:Nat) (H:j < n):∀ k,(∀ i,i < k->0<=o.getD i 0)->((d_j o n k).getD j false=true↔∃ i,i < k/\o.getD i 0=(j:Int))
 | 0,_=>by
  rw [d_j,a_t _ _ _ (by simp;exact H),getElem_replicate];constructor
  ·intro h;cases h
  ·rintro ⟨i,h,_⟩;omega
 | k+1,h=>by
  have I:=g_U j H k fun i L=>h i (by omega);have M:=h k (by omega);rw [d_j,getD_eq_getElem?_getD,getElem?_set,d_Z];by_cases e:(o.getD k 0).toNat=j
  ·rw [if_pos e,if_pos (by omega)];refine ⟨fun _=>⟨k,by omega,by omega⟩,fun _=>rfl⟩
  ·rw [if_neg e,<- getD_eq_getElem?_getD,I];constructor
   ·rintro ⟨i,E,A⟩;exact ⟨i,by omega,A⟩
   ·rintro ⟨i,E,A⟩;rcases Nat.lt_succ_iff_lt_or_eq.1 E with J|rfl
    ·exact ⟨i,J,A⟩
    ·exact absurd (by omega) e
def l_h (l:List Bool):List Value:=l.map Value.bool
/-- A slice of bools of the call's own. -/
def OwnB (W:World) (B:Nat) (v:Value) (l:List Bool):Prop:=W.ownsRow B 4 1 v l.length (l_h l)
theorem OwnB.cell {W:World} {B g n c:Nat} {l:List Bool} (h:OwnB W B (.slice (some ⟨g,0,none⟩) n c) l) (E:l.length=n) (j:Nat) (A:j < n):W.cell? ⟨g,j,none⟩=some (.bool (l.getD j false))/\W.frozen? ⟨g,j,none⟩=false:=by
 subst E;refine ⟨?_,ownsRow.frozenAt h j⟩;rw [ownsRow.cellAt h j (by omega)];unfold l_h;rw [getElem?_map,getElem?_eq_getElem A,getD_eq_getElem?_getD,getElem?_eq_getElem A];rfl
theorem OwnB.store {W:World} {B g n c:Nat} {l:List Bool} (h:OwnB W B (.slice (some ⟨g,0,none⟩) n c) l) (A:l.length=n) (j:Nat) (x:Bool):OwnB (W.setCell ⟨g,j,none⟩ (.bool x)) B (.slice (some ⟨g,0,none⟩) n c) (l.set j x):=by
 subst A;have:=(ownsRow.stored h j (.bool x)).1;unfold OwnB;rw [length_set,show l_h (l.set j x)=(l_h l).set j (.bool x) by unfold l_h;rw [map_set]];exact this
theorem t_I:∃ A,Tryz.prog.info? 4=some A/\A.zero=some (.bool false)/\A.size=1/\A.bytes=1:=by
 have h:(Tryz.prog.info? 4).map (fun i=>(i.zero,i.size,i.bytes))=some (some (.bool false),1,1):=by kernel_rfl
 cases E:Tryz.prog.info? 4 with
 | none=>rw [E] at h;cases h
 | some i=>
  rw [E] at h;simp only [Option.map_some,Option.some.injEq,Prod.mk.injEq] at h;exact ⟨i,rfl,h.1,h.2.1,h.2.2⟩
theorem o_7 {W:World} {B g n:Nat} (h:W.ownsRow B 4 1 (.slice (some ⟨g,0,none⟩) n n) n (madeCells (Value.bool false).cells (n*1)).toList):Hid (OwnB W B (.slice (some ⟨g,0,none⟩) n n) (replicate n false)):=by
 show OwnB _ _ _ _;unfold OwnB l_h;rw [length_replicate,map_replicate]
 have A:(madeCells (Value.bool false).cells (n*1)).toList=replicate n (Value.bool false):=by
  rw [Nat.mul_one];exact toList_madeCells_one _ _
 rw [A] at h;exact h
theorem o_8 (v:Value) (o:List Int) (ho:RI o) (n:Nat) (hn:n<=4) (w:World) (hv:Nums .i64 w v o):
  Calls Tryz.prog 182 #[v,.int .i64 (n:Int)] w fun e w'=>e = .returned (.bool (decide (l_E o n)))/\Bw w w':=by
 obtain ⟨p,m,c,rfl,HO⟩:=hv.lst;obtain ⟨r,er⟩:∃ r:Bool,decide (l_E o n)=r:=⟨_,rfl⟩
 have I:Hid (decide (l_E o n)=r/\RI o/\o.length=m):=⟨er,ho,HO.1⟩
 rw [er];clear er hv ho;have aj:(n:Int)<=4:=by omega
 by_cases O:m=n
 ·subst O;obtain ⟨i0,M,ad,af,aa⟩:=t_I;go_enter Tryz.func182,Tryz.ntmps182;go_wp2_with (at_make;refine wpList_make_full w rfl (.tmp 12) (.tmp 12) 253 rfl w.heap.size 4 i0 (.bool false) 1 Tryz.underlying253 M ad af .i64 .i64 m m m rfl rfl rfl rfl (by rw [aa];omega) (by unfold maxLen;omega) (Nat.le_refl _) ?_;intro w1 A E;have B1:Bw w w1:=Below.grown (Below.refl _ _) E (Nat.le_refl _) (fun j Z=>by cases Z);have H1:=o_7 A;clear A E)
  go_loopg [16] m (fun gg i wr=>∃ (k:Nat),k<=m/\gg=m - k/\i = .int .i64 (k:Int)/\Hid (r_4 o m k)/\Hid (OwnB wr w.heap.size (.slice (some ⟨w.heap.size,0,none⟩) m m) (d_j o m k))/\Hid (Bw w wr))
  case atStart=>exact ⟨0,by omega,by omega,by first|rfl|simp,m_J _ _,H1,B1⟩
  case round=>
   obtain ⟨k,hk,hg,rfl,HK,HB,J⟩:=hrel;by_cases H:k < m
   ·have ah:(k:Int) < (m:Int):=by omega
    obtain ⟨q,of,rfl,V⟩:=HO.2 k H;have ac:=a_d V J.out;have ry:=I.2.1.at k (by rw [I.2.2];exact H);obtain ⟨y,ey⟩:∃ y,o.getD k 0=y:=⟨_,rfl⟩
    have L:Hid _:=ey;rw [ey] at ac ry;clear ey V;by_cases al:y < 0
    ·go_wp2;go_ret;rw [<- I.1,decide_eq_false (fun h:l_E o m=>by have:=(h.2.1 k H).1;rw [L.out] at this;omega)];exact ⟨rfl,J.out⟩
    by_cases an:(m:Int)<=y
    ·go_wp2;go_ret;rw [<- I.1,decide_eq_false (fun h:l_E o m=>by have:=(h.2.1 k H).2;rw [L.out] at this;omega)];exact ⟨rfl,J.out⟩
    obtain ⟨j,ej⟩:∃ j:Nat,y=(j:Int):=⟨y.toNat,by omega⟩
    subst ej;have Z:j < m:=by omega
    have ai:(j:Int) < (m:Int):=by omega
    obtain ⟨A,ak⟩:=HB.cell (d_Z _ _ _) j Z;have hN:=g_U (o:=o) (n:=m) j Z k fun i M=>(HK.1 i M).1;by_cases hb:(d_j o m k).getD j false=true
    ·rw [hb] at A;have Hb:Hid _:=hN.1 hb;clear hb hN;go_wp2;go_ret
     rw [<- I.1,decide_eq_false (fun h:l_E o m=>by
      obtain ⟨i,h1,h2⟩:=Hb.out;have:=h.2.2 i (by omega) k H (by rw [h2,L.out]);omega)]
     exact ⟨rfl,J.out⟩
    ·have R:(d_j o m k).getD j false=false:=by simpa using hb
     rw [R] at A
     have H2:Hid (OwnB (wr.setCell ⟨w.heap.size,j,none⟩ (.bool true)) w.heap.size (.slice (some ⟨w.heap.size,0,none⟩) m m) (d_j o m (k+1))):=by
      have:=HB.out.store (d_Z _ _ _) j true;show OwnB _ _ _ _;rw [d_j,L.out,Int.toNat_natCast];exact this
     have ab:Hid (r_4 o m (k+1)):=m_L HK.out (by rw [L.out];omega) fun i M e=>hb (hN.2 ⟨i,M,by rw [e,L.out]⟩);have ae:Hid (Bw w (wr.setCell ⟨w.heap.size,j,none⟩ (.bool true))):=J.setCell (p:=⟨w.heap.size,j,none⟩) (Nat.le_refl _) _;clear hb R hN;go_wp2;go_roundg (m - (k+1))
     case measure=>omega
     case rel=>exact ⟨k+1,by omega,rfl,by first|rfl|simp,ab,H2,ae⟩
   ·obtain rfl:k=m:=by omega
    go_wp2;go_ret;rw [<- I.1,decide_eq_true (m_K I.2.2 HK.out)];exact ⟨rfl,J.out⟩
 ·have am:((m:Int) != (n:Int))=true:=by simp;omega
  have ag:¬ ((m:Int)=(n:Int)):=by omega
  go_enter Tryz.func182,Tryz.ntmps182;go_wp2;go_ret;rw [<- I.1,decide_eq_false (fun h:l_E o n=>O (by rw [<- I.2.2];exact h.1))];exact ⟨rfl,Below.refl _ _⟩
abbrev g_z (d x o:List Int):Prop:=isP d x/\l_E o d.length
def i_j (d x o:List Int):Int:=if g_z d x o then 0 else 1
def h_w (d x o:List Int):List Int:=if g_z d x o then itl (c_s (ntl d) (ntl o)) else []
def f_t (d x o:List Int):List Int:=if g_z d x o then (range (a_f (ntl d))).map fun i=>x.getD (f_X (ntl d) (ntl o) i) 0 else []
theorem i_k {d x o:List Int} (h:¬ g_z d x o):i_j d x o=1/\h_w d x o = []/\f_t d x o = []:=⟨if_neg h,if_neg h,if_neg h⟩
/-- The sides may change places so. -/
structure Turns (d x o:List Int) (a r:List Nat):Prop where
 da:d=itl a
 dr:o=itl r
 ga:goodN a
 or:d_8 a.length r
 lx:x.length=a_f a
theorem t_J {d x o:List Int} (h:g_z d x o):∃ a r,Turns d x o a r:=by
 obtain ⟨⟨R,L⟩,J,E,M⟩:=h;obtain ⟨a,O,rfl⟩:=b_u R;rw [a_n] at L;rw [a_p] at J E M
 have V:o=itl (ntl o):=by
  refine ext_getElem (by rw [a_p,a_O]) fun i A I=>?_;have:=(E i (by omega)).1;rw [<- a_t o i 0 A,<- a_t (itl (ntl o)) i 0 I,a_K,c_2 o i A];omega
 refine ⟨a,ntl o,rfl,V,O,?_,L⟩;refine o_r (by rw [a_O];exact J) (fun k H=>?_) fun i k A H e=>?_
 ·rw [c_2 o k (by omega)];have:=E k H;omega
 ·rw [c_2 o i (by omega),c_2 o k (by omega)] at e;have Z:=E i A;have e2:=E k H;exact M i A k H (by omega)
theorem Turns.V {d x o:List Int} {a r:List Nat} (h:Turns d x o a r) (hp:g_z d x o):i_j d x o=0/\h_w d x o=itl (c_s a r)/\f_t d x o=(range (a_f a)).map fun i=>x.getD (f_X a r i) 0:=by
 unfold i_j h_w f_t;rw [if_pos hp,if_pos hp,if_pos hp,h.da,h.dr,a_n,a_n];exact ⟨rfl,rfl,rfl⟩
theorem m_M (p p2 p3:Option Addr) (n c I c2 n3 c3:Nat) (d x o:List Int) (hd:RI d) (ho:RI o) (w:World) (h1:Nums .i64 w (.slice p n c) d) (h2:Nums .i64 w (.slice p2 I c2) x) (h3:Nums .i64 w (.slice p3 n3 c3) o):
  Calls Tryz.prog 152 #[.agg #[.slice p n c,.slice p2 I c2],.slice p3 n3 c3] w fun e w'=>∃ v',e = .returned (.tuple #[v',.int .i64 (i_j d x o)])/\TRes w' w.heap.size v' (h_w d x o) (f_t d x o)/\Bw w w':=by
 have cA:=fun W (hW:Bw w W)=>b_h _ _ d x hd W (h1.up hW) (h2.up hW);have HN:Hid (Nums .i64 w (.slice p n c) d/\Nums .i64 w (.slice p2 I c2) x/\Nums .i64 w (.slice p3 n3 c3) o):=⟨h1,h2,h3⟩
 obtain ⟨_,_,_,e4,HD⟩:=h1.lst;cases e4;obtain ⟨_,_,_,e4,HX⟩:=h2.lst;cases e4;obtain ⟨_,_,_,e4,HO⟩:=h3.lst;cases e4;by_cases hp:isP d x
 ·rw [decide_eq_true hp] at cA;have hn:n<=4:=by rw [<- HD.1,<- a_O d];exact hp.1.1
  have bn:(n:Int)<=4:=by omega
  have cB:=fun W (hW:Bw w W)=>o_8 _ o ho n hn W (h3.up hW);by_cases hq:l_E o n
  ·rw [decide_eq_true hq] at cB;have ht:g_z d x o:=⟨hp,by rw [HD.1];exact hq⟩
   obtain ⟨a,r,hT⟩:=t_J ht;obtain ⟨e1,e2,e3⟩:=hT.V ht;rw [e1,e2,e3]
   have cS:∀ W,Bw w W->Calls Tryz.prog 183 #[.slice p n c] W fun e w'=>∃ v',e = .returned v'/\OwnK .i64 3 w' W.heap.size v' (itl (a_C a))/\Bw W w':=fun W hW=>by
    have:=f_T _ d hd W (h1.up hW);rw [hT.da,show c_3 (itl a)=itl (a_C a) by unfold c_3;rw [a_n,if_pos hT.ga]] at this;exact this
   have ha:a.length=n:=by rw [<- HD.1,hT.da,a_p]
   have bc:n=n3:=by rw [<- HO.1];exact hq.1.symm
   subst bc;obtain ⟨N,eN⟩:∃ N,a_f a=N:=⟨_,rfl⟩
   have a9:I=N:=by rw [<- HX.1,hT.lx,eN]
   subst a9;obtain ⟨D,eD⟩:∃ D,itl (c_s a r)=D:=⟨_,rfl⟩
   obtain ⟨T,eT⟩:∃ T,itl (g_u a r)=T:=⟨_,rfl⟩
   obtain ⟨V,eV⟩:∃ V,((range I).map fun i=>x.getD (f_X a r i) 0)=V:=⟨_,rfl⟩
   have E:Hid (Turns d x o a r/\a.length=n/\a_f a=I/\itl (c_s a r)=D/\itl (g_u a r)=T/\((range I).map fun i=>x.getD (f_X a r i) 0)=V/\D.length=n/\T.length=n/\V.length=I):=⟨hT,ha,eN,eD,eT,eV,by rw [<- eD,a_p,b_S,hT.or.1,ha],by rw [<- eT,a_p,f_0,hT.or.1,ha],by rw [<- eV];simp⟩
   have hN:1<=I/\I<=4096:=by rw [<- eN];exact ⟨hT.ga.pos,hT.ga.2.2⟩
   have bi:1<=(I:Int)/\(I:Int)<=4096:=by omega
   rw [eN,eD,eV];obtain ⟨MK,aX⟩:∃ MK,a_N .i64 (replicate n 0)=MK:=⟨_,rfl⟩
   have aD:Hid (a_N .i64 (replicate n 0)=MK):=aX;clear e1 e2 e3 hp hq ht h1 h2 h3 hd ho eN eD eT eV hT ha aX;go_enter Tryz.func152,Tryz.ntmps152;go_wp2_with fail
   generalize Z:alloc _ _=W0;obtain ⟨R,XA,XR⟩:=i_M Z;clear Z;refine (cA W0 R).mono ?_;rintro e w1 ⟨rfl,M⟩;have L:=b_5 (a_c R M) M;clear M;clear cA;obtain ⟨a0,a1,_,_⟩:=XA.out.up L.2;go_wp2_with fail
   refine (cB w1 L.1).mono ?_;rintro e w2 ⟨rfl,af⟩;have ah:=b_5 (a_c L.1 af) (a_c L.2 af);clear af a0 a1 cB;obtain ⟨a0,a1,_,_⟩:=XA.out.up ah.2;go_wp2_with fail
   refine (cS w2 ah.1).mono ?_;rintro e w3 ⟨vs,rfl,aU,aA⟩;have ae:=b_5 (a_c ah.1 aA) (a_c ah.2 aA);have a6:Hid (OwnK .i64 3 w3 w2.heap.size vs (itl (a_C a))):=aU;clear aA aU a0 a1 cS;obtain ⟨a0,a1,_,_⟩:=XA.out.up ae.2;have aV:∀ W,(Instr.makeSlice 22 (.int .i64 (n:Int)) (.int .i64 (n:Int))).run Tryz.prog W = .ok (.slice (some ⟨W.heap.size,0,none⟩) n n) (W.alloc (.cells MK.toArray 3)):=fun W=>by rw [<- aD.out];exact o_l e_g (by decide) n (by omega) .i64 .i64 W
   go_wp2_with fail
   go_region;generalize al:drew _=W4;obtain ⟨ap,O1,O2⟩:=k_f (k:=.i64) (e:=3) (w3:=w3) (W4:=W4) (n:=n) (by omega) (by rw [aD.out];exact al);obtain ⟨H,O⟩:∃ H,w3.heap.size=H:=⟨_,rfl⟩
   obtain ⟨J,ag⟩:∃ J,w3.heap.size+1=J:=⟨_,rfl⟩
   have ab:Hid (Bw w3 W4/\w3.heap.size<=H/\w3.heap.size<=J/\H≠J):=⟨ap,by omega,by omega,by omega⟩
   rw [ag,O]
   have aN:Hid (OwnK .i64 3 W4 w3.heap.size (.slice (some ⟨H,0,none⟩) n n) (b_l D 0)/\OwnK .i64 3 W4 w3.heap.size (.slice (some ⟨J,0,none⟩) n n) (b_l T 0)):=by
    rw [a_W,a_W,E.2.2.2.2.2.2.1,E.2.2.2.2.2.2.2.1,<- O,<- ag];exact ⟨O1,O2⟩
   clear al ap O1 O2 O ag aV a0 a1;rotate_left;generalize al:drew _=W4;obtain ⟨ap,O1,O2⟩:=k_f (k:=.i64) (e:=3) (w3:=w3) (W4:=W4) (n:=n) (by omega) (by rw [aD.out];exact al);obtain ⟨H,O⟩:∃ H,w3.heap.size+1=H:=⟨_,rfl⟩
   obtain ⟨J,ag⟩:∃ J,w3.heap.size=J:=⟨_,rfl⟩
   have ab:Hid (Bw w3 W4/\w3.heap.size<=H/\w3.heap.size<=J/\H≠J):=⟨ap,by omega,by omega,by omega⟩
   rw [O,ag]
   have aN:Hid (OwnK .i64 3 W4 w3.heap.size (.slice (some ⟨H,0,none⟩) n n) (b_l D 0)/\OwnK .i64 3 W4 w3.heap.size (.slice (some ⟨J,0,none⟩) n n) (b_l T 0)):=by
    rw [a_W,a_W,E.2.2.2.2.2.2.1,E.2.2.2.2.2.2.2.1,<- O,<- ag];exact ⟨O2,O1⟩
   clear al ap O1 O2 O ag aV a0 a1
   all_goals
    go_wp2_with fail
    go_loopg [37] n (fun gg i wr=>∃ (k:Nat),k<=n/\gg=n - k/\i = .int .i64 (k:Int)/\Hid (OwnK .i64 3 wr w3.heap.size (.slice (some ⟨H,0,none⟩) n n) (b_l D k)/\OwnK .i64 3 wr w3.heap.size (.slice (some ⟨J,0,none⟩) n n) (b_l T k))/\Hid (Bw w3 wr))
    case atStart=>exact ⟨0,by omega,by omega,by first|rfl|simp,aN,ab.1⟩
    case round=>
     obtain ⟨k,hk,hg,rfl,HG,hB⟩:=hrel;obtain ⟨R1,ba⟩:∃ R1:World,R1=wr:=⟨_,rfl⟩
     subst ba;by_cases aj:k < n
     ·have bl:(k:Int) < (n:Int):=by omega
      obtain ⟨q3,o3,rfl,aR⟩:=HO.2 k aj;have aJ:=a_d aR (a_c ae.1 hB.out);have ac:=E.1.or;rw [E.2.1] at ac;have ay:k < r.length:=by rw [ac.1];exact aj
      rw [E.1.dr,a_K] at aJ;obtain ⟨j,ej⟩:∃ j,r.getD k 0=j:=⟨_,rfl⟩
      have hj:j < n:=by
       rw [<- ej,a_t r k 0 ay];exact ac.2.1 _ (getElem_mem _)
      rw [ej] at aJ;have bm:(j:Int) < (n:Int):=by omega
      obtain ⟨qd,od,rfl,aY⟩:=HD.2 j hj;have aH:=a_d aY (a_c ae.1 hB.out);rw [E.1.da,a_K] at aH;obtain ⟨_,_,_,a8,aE⟩:=(a6.out.up hB.out).nums.lst;subst a8;have aI:=aE.1;rw [a_p,c_a,E.2.1] at aI;subst aI;obtain ⟨qt,ot,rfl,aL⟩:=aE.2 j hj;rw [a_K] at aL;obtain ⟨A,eA⟩:∃ A,a.getD j 0=A:=⟨_,rfl⟩
      obtain ⟨S,eS⟩:∃ S,(a_C a).getD j 0=S:=⟨_,rfl⟩
      rw [eA] at aH;rw [eS] at aL
      have av:Hid (D.getD k 0=(A:Int)/\T.getD k 0=(S:Int)):=by
       refine ⟨?_,?_⟩
       ·rw [<- E.2.2.2.1,a_K,f_U a r k ay,ej,eA]
       ·rw [<- E.2.2.2.2.1,a_K,h_1 a r k ay,ej,eS]
      obtain ⟨bh,bo⟩:=HG.1.cell (by rw [a_y];exact E.2.2.2.2.2.2.1) k aj;obtain ⟨bq,bj⟩:=HG.2.cell (by rw [a_y];exact E.2.2.2.2.2.2.2.1) k aj;have aB:=ab.2.2.2;have bg:¬ J=H:=fun h=>aB h.symm
      have H5:Hid (OwnK .i64 3 ((R1.setCell ⟨H,k,none⟩ (.int .i64 (A:Int))).setCell ⟨J,k,none⟩ (.int .i64 (S:Int))) w3.heap.size (.slice (some ⟨H,0,none⟩) n n) (b_l D (k+1))/\OwnK .i64 3 ((R1.setCell ⟨H,k,none⟩ (.int .i64 (A:Int))).setCell ⟨J,k,none⟩ (.int .i64 (S:Int))) w3.heap.size (.slice (some ⟨J,0,none⟩) n n) (b_l T (k+1))):=by
       have h1:=HG.1.store (by rw [a_y];exact E.2.2.2.2.2.2.1) k (A:Int);rw [<- av.1,a_9 D k (by rw [E.2.2.2.2.2.2.1];exact aj),av.1] at h1;have h2:=(HG.2.stay ((Stay.refl H R1).set k (.int .i64 (A:Int))) (fun ad n1 c1 e1=>by cases e1;exact fun h=>aB h.symm)).store (by rw [a_y];exact E.2.2.2.2.2.2.2.1) k (S:Int);rw [<- av.2,a_9 T k (by rw [E.2.2.2.2.2.2.2.1];exact aj),av.2] at h2;exact ⟨h1.stay ((Stay.refl J _).set k (.int .i64 (S:Int))) (fun ad n1 c1 e1=>by cases e1;exact aB),h2⟩
      have H6:Hid (Bw w3 ((R1.setCell ⟨H,k,none⟩ (.int .i64 (A:Int))).setCell ⟨J,k,none⟩ (.int .i64 (S:Int)))):=(hB.setCell (p:=⟨H,k,none⟩) ab.2.1 _).setCell (p:=⟨J,k,none⟩) ab.2.2.1 _;obtain ⟨a0,a1,_,_⟩:=XA.out.up (a_c ae.2 hB.out);clear aR aY eA eS ej ac aE;have BD:Below ((R1.setCell ⟨H,k,none⟩ (.int .i64 (A:Int))).setCell ⟨J,k,none⟩ (.int .i64 (S:Int))).heap.size ((R1.setCell ⟨H,k,none⟩ (.int .i64 (A:Int))).setCell ⟨J,k,none⟩ (.int .i64 (S:Int))) ((R1.setCell ⟨H,k,none⟩ (.int .i64 (A:Int))).setCell ⟨J,k,none⟩ (.int .i64 (S:Int))).drew:=⟨rfl,rfl,rfl,Nat.le_refl _,fun _ _=>rfl⟩
      have H7:Hid (OwnK .i64 3 ((R1.setCell ⟨H,k,none⟩ (.int .i64 (A:Int))).setCell ⟨J,k,none⟩ (.int .i64 (S:Int))).drew w3.heap.size (.slice (some ⟨H,0,none⟩) n n) (b_l D (k+1))/\OwnK .i64 3 ((R1.setCell ⟨H,k,none⟩ (.int .i64 (A:Int))).setCell ⟨J,k,none⟩ (.int .i64 (S:Int))).drew w3.heap.size (.slice (some ⟨J,0,none⟩) n n) (b_l T (k+1))):=⟨H5.1.up BD,H5.2.up BD⟩
      have H8:Hid (Bw w3 ((R1.setCell ⟨H,k,none⟩ (.int .i64 (A:Int))).setCell ⟨J,k,none⟩ (.int .i64 (S:Int))).drew):=H6.trans (BD.mono H6.size);clear BD H5 H6;go_wp2_with fail
      go_region;go_wp2;go_roundg (n - (k+1))
      case measure=>omega
      case rel=>exact ⟨k+1,by omega,rfl,by first|rfl|simp,H7,H8⟩
     ·obtain rfl:k=n:=by omega
      have ai:=HG.1;have aC:=HG.2;rw [<- E.2.2.2.2.2.2.1,a_0,E.2.2.2.2.2.2.1] at ai;rw [<- E.2.2.2.2.2.2.2.1,a_0,E.2.2.2.2.2.2.2.1] at aC;have aq:Hid (OwnK .i64 3 R1 w3.heap.size (.slice (some ⟨H,0,none⟩) k k) D/\OwnK .i64 3 R1 w3.heap.size (.slice (some ⟨J,0,none⟩) k k) T):=⟨ai,aC⟩
      have ak:Hid (Bw w R1/\Bw W0 R1):=⟨a_c ae.1 hB.out,a_c ae.2 hB.out⟩
      obtain ⟨a0,a1,_,_⟩:=XA.out.up ak.2;clear ai aC;go_wp2_with (at_make;refine a_F l_5 (by decide) _ rfl (.tmp 60) (.tmp 60) rfl .i64 .i64 I I I rfl rfl rfl rfl (by omega) w.heap.size w ak.1.size ak.1 ?_;intro w6 au B6 bb;clear bb)
      have aS:=b_5 (a_c ak.1 B6) (a_c ak.2 B6);have ar:Hid (OwnK .i64 3 w6 w3.heap.size (.slice (some ⟨H,0,none⟩) k k) D/\OwnK .i64 3 w6 w3.heap.size (.slice (some ⟨J,0,none⟩) k k) T):=⟨aq.1.up B6,aq.2.up B6⟩
      obtain ⟨g,hg⟩:∃ g,R1.heap.size=g:=⟨_,rfl⟩
      have hz:=a_b XR.1;have O:=aq.1.size;have Hg:Hid (W0.heap.size<=g/\w.heap.size+1 < W0.heap.size/\W0.heap.size<=w3.heap.size/\H < g/\g < w6.heap.size):=⟨by rw [<- hg];exact ak.2.size,hz,ae.2.size,by rw [<- hg];exact O,by rw [<- hg];exact au.size⟩
      rw [hg] at au ⊢;have ac:=E.1.or;have cW:=j_W (.slice (some ⟨H,0,none⟩) k k) (.slice (some ⟨J,0,none⟩) k k) (c_s a r) (g_u a r) (f_W E.1.ga ac) (by rw [b_S,f_0]) (o_t E.1.ga r) w6 (by rw [E.2.2.2.1];exact ar.1.nums) (by rw [E.2.2.2.2.1];exact ar.2.nums);refine cW.mono ?_;rintro e w7 ⟨vw,rfl,h7,ao⟩;obtain ⟨pw,nw,cw,rfl,aZ⟩:=h7.nums.lst;have a7:I=nw:=by rw [<- aZ.1,a_p,h_Z,d_R ac,E.2.2.1]
      subst a7;have aM:Hid (OwnK .i64 3 w7 w6.heap.size (.slice pw I cw) (itl (f_Y (c_s a r) (g_u a r)))):=h7;have aG:=b_5 (a_c aS.1 ao) (a_c aS.2 ao)
      have a5:Hid (OwnK .i64 48 w7 g (.slice (some ⟨g,0,none⟩) I I) (b_l V 0)):=by
       show OwnK _ _ _ _ _ _;rw [a_W,E.2.2.2.2.2.2.2.2];exact au.out.up ao
      have aQ:Hid (Cel w7 w.heap.size (.slice p k c) (.slice p2 I c2)/\Cel w7 (w.heap.size+1) (.slice none 0 0) (.slice none 0 0)):=⟨XA.out.up aG.2,XR.out.up aG.2⟩
      have a3:Hid (OwnK .i64 3 w7 w3.heap.size (.slice (some ⟨H,0,none⟩) k k) D):=ar.1.up ao;clear cW h7 ao aZ a0 a1 au B6 hg hz O ac aq ar;go_wp2_with fail
      go_loopg [66] I (fun gg i wr=>∃ (m:Nat),m<=I/\gg=I - m/\i = .int .i64 (m:Int)/\Hid (OwnK .i64 48 wr g (.slice (some ⟨g,0,none⟩) I I) (b_l V m))/\Hid (Bw w wr/\Stay g w7 wr))
      case atStart=>exact ⟨0,by omega,by omega,by first|rfl|simp,a5,aG.1,Stay.refl _ _⟩
      case round=>
       obtain ⟨m,hm,hg,rfl,az,aa⟩:=hrel;obtain ⟨R2,a4⟩:∃ R2:World,R2=wr:=⟨_,rfl⟩
       subst a4;by_cases an:m < I
       ·have bk:(m:Int) < (I:Int):=by omega
        obtain ⟨_,_,_,e4,aO⟩:=(aM.out.nums.stay aa.2 (aM.out.off Hg.2.2.2.2)).lst;cases e4;obtain ⟨qa,oa,rfl,aW⟩:=aO.2 m an;have aF:m < a_f a:=by rw [E.2.2.1];exact an
        rw [a_K,l_2 E.1.ga E.1.or m aF] at aW;have ia:=o_s E.1.ga E.1.or m aF;rw [E.2.2.1] at ia;obtain ⟨i,ei⟩:∃ i,f_X a r m=i:=⟨_,rfl⟩
        rw [ei] at aW ia;have br:(i:Int) < (I:Int):=by omega
        obtain ⟨qx,ox,rfl,aT⟩:=HX.2 i ia;have bd:=a_d aT aa.1;obtain ⟨X,eX⟩:∃ X,x.getD i 0=X:=⟨_,rfl⟩
        rw [eX] at bd
        have HZ:Hid (V.getD m 0=X):=by
         show _=_;rw [<- E.2.2.2.2.2.1,a_J _ _ _ _ an,ei,eX]
        obtain ⟨be,bp⟩:=az.cell (by rw [a_y];exact E.2.2.2.2.2.2.2.2) m an
        have H5:Hid (OwnK .i64 48 (R2.setCell ⟨g,m,none⟩ (.int .i64 X)) g (.slice (some ⟨g,0,none⟩) I I) (b_l V (m+1))):=by
         have:=az.out.store (by rw [a_y];exact E.2.2.2.2.2.2.2.2) m X;rw [<- HZ.out,a_9 V m (by rw [E.2.2.2.2.2.2.2.2];exact an)] at this;rw [<- HZ.out];exact this
        have aP:w.heap.size<=g:=by have:=Hg.out;omega
        have H6:Hid (Bw w (R2.setCell ⟨g,m,none⟩ (.int .i64 X))/\Stay g w7 (R2.setCell ⟨g,m,none⟩ (.int .i64 X))):=⟨aa.1.setCell (p:=⟨g,m,none⟩) aP _,aa.2.set _ _⟩
        have ax:w.heap.size≠g:=by have:=Hg.out;omega
        obtain ⟨a0,a1,_,_⟩:=aQ.1.stay aa.2 ax;clear eX ei aT aO ax aP aF;go_wp2;go_roundg (I - (m+1))
        case measure=>omega
        case rel=>exact ⟨m+1,by omega,rfl,by first|rfl|simp,H5,H6⟩
       ·obtain rfl:m=I:=by omega
        have aw:w.heap.size+1≠g:=by have:=Hg.out;omega
        have a2:Hid (Cel R2 (w.heap.size+1) (.slice none 0 0) (.slice none 0 0)):=aQ.2.stay aa.2 aw;have am:=az.out;rw [<- E.2.2.2.2.2.2.2.2,a_0,E.2.2.2.2.2.2.2.2] at am;have ai:=a3.out.stay aa.2 (fun ad n1 c1 e1=>by cases e1;have:=Hg.2.2.2.1;show H≠g;omega)
        have HF:Hid (TRes (set2 R2 (w.heap.size+1) (.slice (some ⟨H,0,none⟩) k k) (.slice (some ⟨g,0,none⟩) m m)) w.heap.size (.agg #[.slice (some ⟨H,0,none⟩) k k,.slice (some ⟨g,0,none⟩) m m]) D V/\Bw w (set2 R2 (w.heap.size+1) (.slice (some ⟨H,0,none⟩) k k) (.slice (some ⟨g,0,none⟩) m m))):=
         ⟨(TRes.set (ai.low Hg.2.2.1) (am.low Hg.1) Hg.2.1).low R.size,a_q aa.1 _ (by omega) _ _⟩
        clear am ai aw;have xr:=a2.out;have cf:=xr.set (.slice (some ⟨H,0,none⟩) k k) (.slice (some ⟨g,0,none⟩) m m);obtain ⟨r0,r1,r2,r3⟩:=xr;obtain ⟨y0,y1,_,_⟩:=cf;go_wp2;exact bodyPost_ret (v:=.tuple #[.agg #[.slice (some ⟨H,0,none⟩) k k,.slice (some ⟨g,0,none⟩) m m],.int .i64 0]) (by simp [results,Tryz.results152,go_sem,y0,y1]) rfl ⟨_,rfl,HF.out⟩
  ·rw [decide_eq_false hq] at cB;obtain ⟨e1,e2,e3⟩:=i_k (d:=d) (x:=x) (o:=o) fun h=>hq (by rw [<- HD.1];exact h.2);rw [e1,e2,e3];clear e1 e2 e3 h1 h2 h3 hd ho hp hq;go_enter Tryz.func152,Tryz.ntmps152;go_wp2_with fail
   generalize Z:alloc _ _=W0;obtain ⟨R,XA,XR⟩:=i_M Z;clear Z;refine (cA W0 R).mono ?_;rintro e w1 ⟨rfl,M⟩;have L:=b_5 (a_c R M) M;clear M;clear cA;obtain ⟨a0,a1,_,_⟩:=XA.out.up L.2;go_wp2_with fail
   refine (cB w1 L.1).mono ?_;rintro e w2 ⟨rfl,af⟩;have ah:=b_5 (a_c L.1 af) (a_c L.2 af);clear af a0 a1 cB;obtain ⟨BF,r0,r1,r2,r3,y0,y1⟩:=i_N XR ah.1 ah.2 (by omega);go_wp2;exact brn 1 (by simp [results,Tryz.results152,go_sem,y0,y1]) ⟨_,rfl,TRes.none _ _,BF⟩
 ·rw [decide_eq_false hp] at cA;obtain ⟨e1,e2,e3⟩:=i_k (d:=d) (x:=x) (o:=o) fun h=>hp h.1;rw [e1,e2,e3];clear e1 e2 e3 h1 h2 h3 hd ho hp;go_enter Tryz.func152,Tryz.ntmps152;go_wp2_with fail
  generalize Z:alloc _ _=W0;obtain ⟨R,XA,XR⟩:=i_M Z;clear Z;refine (cA W0 R).mono ?_;rintro e w1 ⟨rfl,M⟩;have L:=b_5 (a_c R M) M;clear M;obtain ⟨BF,r0,r1,r2,r3,y0,y1⟩:=i_N XR L.1 L.2 (by omega);go_wp2;exact brn 1 (by simp [results,Tryz.results152,go_sem,y0,y1]) ⟨_,rfl,TRes.none _ _,BF⟩
end Go.Proofs.YtkfpainpomobfaaGreatDoor.Wd
namespace Go.Proofs.YtkfpainpomobfaaGreatDoor.Wd
open Go.RowKit Fx List World Nat
/-- A tensor of two sides. -/
theorem m_N {A E:Nat} {x:List Int} (H:x.length=A*E) (O:1<=A) (M:1<=E) (J:A*E<=4096):isP [(A:Int),(E:Int)] x:=by
 have e:a_f [A,E]=A*E:=by simp [a_f]
 have L:ntl [(A:Int),(E:Int)] = [A,E]:=a_n [A,E];unfold isP;rw [L];refine ⟨⟨by simp,fun y I=>?_,by rw [e];exact J⟩,by rw [e];exact H⟩;simp at I;omega
def flE (d x:List Int):Int:=if isP d x then if d.length=2 then 0 else 4 else 1
def flD (d x:List Int):List Int:=if isP d x/\d.length=2 then [d.getD 1 0,d.getD 0 0] else []
def flV (d x:List Int):List Int:=if isP d x/\d.length=2 then o_Y (d.getD 0 0).toNat (d.getD 1 0).toNat x else []
/-- The sides but one. -/
def j_h (s:Nat) (side:Int):List Int:=(itl (range s)).filter fun i=>decide (i≠side)
def c_Y (s:Nat) (side:Int):List Int:=j_h s side++[side]
theorem i_l (s:Nat) (A:Int):j_h (s+1) A=j_h s A++if (s:Int)=A then [] else [(s:Int)]:=by
 unfold j_h itl;rw [range_succ,map_append,filter_append]
 congr 1
 by_cases h:(s:Int)=A <;> simp [h]
theorem k_g (s:Nat) (A:Int):(j_h s A).length<=s:=by
 have:=length_filter_le (fun i=>decide (i≠A)) (itl (range s));rw [a_p,length_range] at this;exact this
theorem i_m (s:Nat) (hs:s<=1000) (A:Int) (hr:InR A) (w:World):
  Calls Tryz.prog 153 #[.int .i64 (s:Int),.int .i64 A] w fun e w'=>∃ v',e = .returned v'/\OwnK .i64 3 w' w.heap.size v' (c_Y s A)/\Bw w w':=by
 have ad:(s:Int)<=1000:=by omega
 obtain ⟨L,V⟩:∃ L,c_Y s A=L:=⟨_,rfl⟩
 have HL:Hid _:=V;rw [V];unfold InR at hr;clear V;go_enter Tryz.func153,Tryz.ntmps153;go_wp2_with (at_make;refine e_M e_g (by decide) _ rfl (.const (.int .i64 0)) (.tmp 7) rfl .i64 .i64 _ s rfl rfl rfl (by omega) ?_;intro w1 Z B1)
 have ab:Hid _:=B1;clear B1
 go_loopg [5,10] s (fun gg r i wr=>∃ (k:Nat),k<=s/\gg=s - k/\i = .int .i64 (k:Int)/\Hid (OwnK .i64 3 wr w.heap.size r (j_h k A))/\Hid (Bw w wr))
 case atStart=>exact ⟨0,by omega,by omega,by first|rfl|simp,Z,ab⟩
 case round=>
  obtain ⟨k,hk,hg,rfl,O,R⟩:=hrel;obtain ⟨E,M⟩:∃ E:World,E=wr:=⟨_,rfl⟩
  subst M;by_cases ae:k < s
  ·have ac:(k:Int) < (s:Int):=by omega
   by_cases he:(k:Int)=A
   ·subst he;have aa:((k:Int) != (k:Int))=false:=by simp
    have H7:Hid (OwnK .i64 3 E w.heap.size u5 (j_h (k+1) (k:Int))):=by
     show OwnK _ _ _ _ _ _;rw [i_l,if_pos rfl,append_nil];exact O.out
    go_wp2;go_roundg (s - (k+1))
    case measure=>omega
    case rel=>exact ⟨k+1,by omega,rfl,by first|rfl|simp,H7,R⟩
   ·have aa:((k:Int) != A)=true:=by simp [he]
    have H6:Hid (OwnK .i64 3 (E.alloc (.cells #[.int .i64 (k:Int)] 3)) w.heap.size u5 (j_h k A)):=O.out.up (a_a E _);have J:Hid (Nums .i64 (E.alloc (.cells #[.int .i64 (k:Int)] 3)) (.slice (some ⟨E.heap.size,0,none⟩) 1 1) [(k:Int)]):=a_8 (k:=.i64) E [(k:Int)] 1 (0,0) rfl;have H:Hid (Bw w (E.alloc (.cells #[.int .i64 (k:Int)] 3))):=k_U R.out _
    have I:Hid ((j_h k A).length+[(k:Int)].length<=1073741824):=by
     show _<=_;have:=k_g k A;rw [length_singleton];omega
    go_wp2_with (at_builtin;refine a_x e_g (by decide) rfl (.tmp 16) (.tmp 18) rfl w.heap.size _ _ rfl H6.out _ [(k:Int)] rfl J.out I.out H.size w H.out ?_;intro v0 w0 H0 B0)
    have H7:Hid (OwnK .i64 3 w0 w.heap.size v0 (j_h (k+1) A)):=by
     show OwnK _ _ _ _ _ _;rw [i_l,if_neg he];exact H0.out
    go_roundg (s - (k+1))
    case measure=>omega
    case rel=>exact ⟨k+1,by omega,rfl,by first|rfl|simp,H7,B0⟩
  ·obtain rfl:k=s:=by omega
   have H6:Hid (OwnK .i64 3 (E.alloc (.cells #[.int .i64 A] 3)) w.heap.size u5 (j_h k A)):=O.out.up (a_a E _);have J:Hid (Nums .i64 (E.alloc (.cells #[.int .i64 A] 3)) (.slice (some ⟨E.heap.size,0,none⟩) 1 1) [A]):=a_8 (k:=.i64) E [A] 1 (0,0) rfl;have H:Hid (Bw w (E.alloc (.cells #[.int .i64 A] 3))):=k_U R.out _
   have I:Hid ((j_h k A).length+[A].length<=1073741824):=by
    show _<=_;have:=k_g k A;rw [length_singleton];omega
   go_wp2_with (at_builtin;refine a_x e_g (by decide) rfl (.tmp 21) (.tmp 23) rfl w.heap.size _ _ rfl H6.out _ [A] rfl J.out I.out H.size w H.out ?_;intro v0 w0 H0 B0)
   go_ret;exact ⟨_,rfl,by rw [<- HL.out];exact H0.out,B0⟩
end Go.Proofs.YtkfpainpomobfaaGreatDoor.Wd
