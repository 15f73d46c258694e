/- act.Back: what it hands back. · What a gradient of a node gives for the two that it is of, as the document's table has it; nodes that were reckoned of those ahead of them: what is given has their shapes. · A sweep back over a tape, as the document has it: each node's gradient has its shape. -/
import Derived.Test.YtjlofobnmjompaaGreatDoorT16
import Derived.Test.YtjlofobnmjompaaGreatDoorT11
import Derived.Test.YtjlofobnmjompaaGreatDoorT01
import Derived.Test.YtjlofobnmjompaaGreatDoorT17
import Derived.Test.YtjlofobnmjompaaGreatDoorT18
set_option linter.unusedVariables false
set_option linter.unusedSimpArgs false
set_option maxHeartbeats 16000000
set_option maxRecDepth 16000
namespace Go.Proofs.YtjlofobnmjompaaGreatDoor.Wd
open Go.RowKit Fx
def q_u (k:Int) (d x d' y:List Int):Int:=if (1<=k/\k<=5)/\isP d x/\isP d' y then if d=d' then 0 else 4 else 1
def o_m (k:Int) (d x d' y:List Int):List Int:=if ((1<=k/\k<=5)/\isP d x/\isP d' y)/\d=d' then d' else []
def p_f (k:Int) (d x d' y:List Int):List Int:=if ((1<=k/\k<=5)/\isP d x/\isP d' y)/\d=d' then (List.range x.length).map fun i=>Fx.mulI (y.getD i 0) (Fx.slopeI k (x.getD i 0)) else []
theorem r_Z {k:Int} {d x d' y:List Int} (h:¬ ((1<=k/\k<=5)/\isP d x/\isP d' y)):q_u k d x d' y=1/\o_m k d x d' y = []/\p_f k d x d' y = []:=⟨if_neg h,if_neg fun D=>h D.1,if_neg fun D=>h D.1⟩
theorem q_v {k:Int} {d x d' y:List Int} (h:(1<=k/\k<=5)/\isP d x/\isP d' y) (H:¬ d=d'):q_u k d x d' y=4/\o_m k d x d' y = []/\p_f k d x d' y = []:=⟨(if_pos h).trans (if_neg H),if_neg fun D=>H D.2,if_neg fun D=>H D.2⟩
theorem q_w {k:Int} {d x d' y:List Int} (h:(1<=k/\k<=5)/\isP d x/\isP d' y) (D:d=d'):q_u k d x d' y=0/\o_m k d x d' y=d'/\p_f k d x d' y=(List.range x.length).map fun i=>Fx.mulI (y.getD i 0) (Fx.slopeI k (x.getD i 0)):=⟨(if_pos h).trans (if_pos D),if_pos ⟨h,D⟩,if_pos ⟨h,D⟩⟩
theorem m_y (k:Int) (p p2 p3 p4:Option Addr) (n c n2 c2 n3 c3 H c4:Nat) (d x d' y:List Int) (hd:RI d) (hx:RI x) (aC:RI d') (hy:RI y) (w:World) (h1:Nums .i64 w (.slice p n c) d) (h2:Nums .i64 w (.slice p2 n2 c2) x) (h3:Nums .i64 w (.slice p3 n3 c3) d') (h4:Nums .i64 w (.slice p4 H c4) y) (D:((1<=k/\k<=5)/\isP d x/\isP d' y)/\d=d'):
  Calls Tryz.prog 110 #[.int .i64 k,.agg #[.slice p n c,.slice p2 n2 c2],.agg #[.slice p3 n3 c3,.slice p4 H c4]] w fun e w'=>∃ v',e = .returned (.tuple #[v',.int .i64 (q_u k d x d' y)])/\TRes w' w.heap.size v' (o_m k d x d' y) (p_f k d x d' y)/\Below w.heap.size w w':=by
 have cA:=fun W (hW:Below w.heap.size w W)=>a_D _ _ d x hd W (h1.up hW) (h2.up hW);have cB:=fun W (hW:Below w.heap.size w W)=>a_D _ _ d' y aC W (h3.up hW) (h4.up hW);have hk:=D.1.1;obtain ⟨K1,K2,e1,e2,f1,f2,cl⟩:=j_S k hk;rw [decide_eq_true D.1.2.1] at cA;rw [decide_eq_true D.1.2.2] at cB;have hP:isP d x/\isP d' y:=D.1.2;have cQ:=fun W (hW:Below w.heap.size w W)=>f_c _ _ d d' (by have:=hP.1.1.1;rw [a_Q] at this;omega) W (h1.up hW) (h3.up hW);rw [decide_eq_true D.2] at cQ;obtain ⟨q1,q2,q3⟩:=q_w D.1 D.2;rw [q1,q2,q3];obtain ⟨V,eV⟩:∃ V,((List.range x.length).map fun i=>Fx.mulI (y.getD i 0) (Fx.slopeI k (x.getD i 0)))=V:=⟨_,rfl⟩
 rw [eV];have HN:Hid (Nums .i64 w (.slice p3 n3 c3) d'):=h3;obtain ⟨_,_,_,e4,HX⟩:=h2.lst;cases e4;obtain ⟨_,_,_,e4,HY⟩:=h4.lst;cases e4;have ak:x.length=y.length:=by rw [D.1.2.1.2,D.1.2.2.2,D.2]
 have aA:x.length<=4096:=by rw [D.1.2.1.2];exact D.1.2.1.1.2.2
 have aG:d'.length<=1073741824:=by have:=D.1.2.2.1.1;rw [a_Q] at this;omega
 rw [ak,HY.out.1] at aA;obtain rfl:H=n2:=by rw [<- HX.out.1,<- HY.out.1,ak]
 have aI:(H:Int)<=4096:=by omega
 have U:Hid (((List.range x.length).map fun i=>Fx.mulI (y.getD i 0) (Fx.slopeI k (x.getD i 0)))=V/\V.length=H/\RI x/\RI y/\x.length=H/\y.length=H/\d'.length<=1073741824):=⟨eV,by rw [<- eV,List.length_map,List.length_range];exact HX.out.1,hx,hy,HX.out.1,HY.out.1,aG⟩
 have aO:Hid (∀ x W,Calls Tryz.prog K2 #[.int .i64 x] W fun e w'=>e = .returned (.int .i64 (slopeI k x))/\w'=W):=f2;have aD:Hid (∀ args W,(callFunc K2 args).run Tryz.prog W = .ok (.enter K2 args) W):=e2;haveI:Nonempty World:=⟨w⟩
 clear q1 q2 q3 eV h1 h2 h3 h4 hd hx aC hy hk D hP f1 f2 e1 e2 ak aG;go_enter Tryz.func110,Tryz.ntmps110;go_wp2_with fail
 generalize aa:World.alloc _ _=W0;have aj:=b_C (w:=w) aa (by go_grown);have XA:Hid (Cel W0 w.heap.size (.slice p n c) (.slice p2 H c2)):=a_y aa (by simp [go_sem]);have XB:Hid (Cel W0 (w.heap.size+1) (.slice p3 n3 c3) (.slice p4 H c4)):=a_y aa (by simp [go_sem]);have XR:Hid (Cel W0 (w.heap.size+2) (.slice none 0 0) (.slice none 0 0)):=a_y aa (by simp [go_sem]);clear aa;refine (cl W0).mono ?_;rintro e w1 ⟨rfl,aq⟩;have ae:=a_M (a_c aj.out aq) aq;clear aq cl;obtain ⟨a0,a1,_,_⟩:=XA.out.up (ae.out.2);have z0:=a_a a0;obtain ⟨M,b1,_,_⟩:=XB.out.up (ae.out.2);have z1:=a_a M;go_wp2_with fail
 generalize ao:World.alloc _ _=W2;have B2:Below w1.heap.size w1 W2:=by rw [<- ao];exact a_b w1 _
 have XL:Hid (Cel W2 w1.heap.size (.func (.func K1) #[] #[]) (.func (.func K2) #[] #[])):=by show Cel _ _ _ _;unfold Cel;rw [<- ao];simp [go_sem]
 have au:=a_M (a_c ae.out.1 B2) (a_c ae.out.2 B2);have HL:Hid (W0.heap.size<=w1.heap.size):=ae.out.2.size;obtain ⟨bl,aJ⟩:∃ bl,w1.heap.size=bl:=⟨_,rfl⟩
 rw [aJ] at XL HL ⊢;clear ao B2;refine (cA W2 au.out.1).mono ?_;rintro e w3 ⟨rfl,ah⟩;have ab:Hid (Below w.heap.size w w3/\Below W0.heap.size W0 w3/\Below W2.heap.size W2 w3):=⟨a_c au.out.1 ah,a_c au.out.2 ah,ah⟩
 clear ah cA a0 a1 z0 M b1 z1;obtain ⟨M,b1,_,_⟩:=XB.out.up (ab.out.2.1);have z1:=a_a M;go_wp2_with fail
 refine (cB w3 ab.out.1).mono ?_;rintro e w4 ⟨rfl,af⟩;have R:Hid (Below w.heap.size w w4/\Below W0.heap.size W0 w4/\Below W2.heap.size W2 w4):=⟨a_c ab.out.1 af,a_c ab.out.2.1 af,a_c ab.out.2.2 af⟩
 clear af cB M b1 z1;obtain ⟨a0,a1,_,_⟩:=XA.out.up (R.out.2.1);have z0:=a_a a0;obtain ⟨M,b1,_,_⟩:=XB.out.up (R.out.2.1);have z1:=a_a M;go_wp2_with fail
 refine (cQ w4 R.out.1).mono ?_;rintro e w5 ⟨rfl,mq,rfl⟩;have I:Hid (Below w.heap.size w (w4.drewN mq)/\Below W0.heap.size W0 (w4.drewN mq)/\Below W2.heap.size W2 (w4.drewN mq)):=⟨a_c R.out.1 (k_G _ _),a_c R.out.2.1 (k_G _ _),a_c R.out.2.2 (k_G _ _)⟩
 obtain ⟨w5,aB⟩:∃ w5:World,w4.drewN mq=w5:=⟨_,rfl⟩
 rw [aB] at I ⊢;clear cQ a0 a1 z0 M b1 z1 aB;obtain ⟨a0,a1,_,_⟩:=XA.out.up (I.out.2.1);have z0:=a_a a0;obtain ⟨M,b1,_,_⟩:=XB.out.up (I.out.2.1);have z1:=a_a M;go_wp2_with (at_make;refine a_z k_u (by decide) _ rfl (.tmp 40) (.tmp 40) rfl .i64 .i64 H H H rfl rfl rfl rfl (by omega) w.heap.size w I.out.1.size I.out.1 ?_;intro w6 aw B6 aK;clear aK;have aM:=(XA.out.up (a_c I.out.2.1 B6));obtain ⟨a2,a3,_,_⟩:=aM)
 obtain ⟨g,hg⟩:∃ g,w5.heap.size=g:=⟨_,rfl⟩
 have ad:Hid (Below w.heap.size w w6/\Below W0.heap.size W0 w6/\Below W2.heap.size W2 w6):=⟨a_c I.out.1 B6,a_c I.out.2.1 B6,a_c I.out.2.2 B6⟩
 rw [hg] at aw ⊢;have hz:=a_a XR.out.1;have Hg:Hid (W0.heap.size<=g/\w.heap.size+2 < W0.heap.size/\bl < g):=⟨by rw [<- hg];exact I.out.2.1.size,hz,by rw [<- hg];exact Nat.lt_of_lt_of_le (a_a XL.out.1) I.out.2.2.size⟩
 have aH:Hid (OwnK .i64 23 w6 g (.slice (some ⟨g,0,none⟩) H H) (b_K V 0)):=by
  show OwnK _ _ _ _ _ _;rw [a_Z,U.out.2.1];exact aw.out
 clear a0 a1 a2 a3 M b1 z0 z1 aw B6 hg hz
 go_loopg [45] H (fun gg i wr=>∃ (q:Nat),q<=H/\gg=H - q/\i = .int .i64 (q:Int)/\Hid (OwnK .i64 23 wr g (.slice (some ⟨g,0,none⟩) H H) (b_K V q))/\Hid (Below w.heap.size w wr/\Stay g w6 wr))
 case atStart=>exact ⟨0,by omega,by omega,by first|rfl|simp,aH,ad.out.1,Stay.refl _ _⟩
 case round=>
  obtain ⟨j,hj,hg,rfl,am,J⟩:=hrel;obtain ⟨R1,aP⟩:∃ R1:World,R1=wr:=⟨_,rfl⟩
  subst aP;by_cases O:j < H
  ·have aS:(j:Int) < (H:Int):=by omega
   obtain ⟨q,o,rfl,az⟩:=HX.out.2 j O;have ap:=a_d az J.out.1;obtain ⟨q',o',rfl,aF⟩:=HY.out.2 j O;have ar:=a_d aF J.out.1;have ry:=U.out.2.2.2.1.at j (by rw [U.out.2.2.2.2.2.1];exact O);obtain ⟨X,eX⟩:∃ X,x.getD j 0=X:=⟨_,rfl⟩
   obtain ⟨Y,eY⟩:∃ Y,y.getD j 0=Y:=⟨_,rfl⟩
   rw [eX] at ap;rw [eY] at ar ry;obtain ⟨SL,eS⟩:∃ SL,Fx.slopeI k X=SL:=⟨_,rfl⟩
   obtain ⟨Z,eZ⟩:∃ Z,Fx.mulI Y SL=Z:=⟨_,rfl⟩
   have HZ:Hid (V.getD j 0=Z):=by
    show _=_;rw [<- U.out.1,a_I _ _ _ _ (by rw [U.out.2.2.2.2.1];exact O),eX,eY,eS,eZ]
   have rs:InR SL:=by rw [<- eS];exact m_j _ _
   have cs:∀ W,Calls Tryz.prog K2 #[.int .i64 X] W fun e w'=>e = .returned (.int .i64 SL)/\w'=W:=fun W=>by rw [<- eS];exact aO.out X W
   have cm:∀ W,Calls Tryz.prog 134 #[.int .i64 Y,.int .i64 SL] W fun e w'=>e = .returned (.int .i64 Z)/\w'=W:=fun W=>by rw [<- eZ];exact Fx.mul_any Y SL ry rs W
   have ax:bl≠g:=by have:=Hg.out;omega
   have L:w.heap.size+1≠g:=by have:=Hg.out;omega
   obtain ⟨l0,l1,_,_⟩:=(XL.out.up ad.out.2.2).stay J.out.2 ax;obtain ⟨M,b1,_,_⟩:=(XB.out.up ad.out.2.1).stay J.out.2 L;have aL:w.heap.size<=g:=by have:=Hg.out;have:=aj.out.size;omega
   have z0:=a_a l0;have z1:=a_a M;have z2:=a_a ap;have z3:=a_a ar;have z4:=am.out.size;have Hk:Hid (j < V.length):=by show _ < _;rw [U.out.2.1];exact O
   clear eX eY eS eZ az aF ax L ry rs;go_wp2_with fail
   refine j_r 13 69 (by kernel_rfl) rfl rfl (by kernel_rfl) ?_;apply Exists.intro;refine ⟨?_,?_⟩
   ·intro F hF;have hFc:=hF.cell;have hFf:=hF.frozen;simp only [List.take_succ_cons,List.take_zero,List.eraseIdx_cons_succ,List.eraseIdx_cons_zero]
    repeat (go_big_quiet_step (first|(go_at_call 134;with_reducible exact hF.same (cm _))|(rw [aD.out];exact ⟨rfl,hF.same (cs _)⟩)))
    refine wpQuiet_nil ?_;exact rfl
   ·intro R2 ag;simp only [List.drop_succ_cons,List.drop_zero];have an:=am.out.up ag;obtain ⟨aQ,aR⟩:=an.cell (by rw [a_B];exact U.out.2.1) j O
    have H5:Hid (OwnK .i64 23 (R2.setCell ⟨g,j,none⟩ (.int .i64 Z)) g (.slice (some ⟨g,0,none⟩) H H) (b_K V (j+1))):=by
     have:=an.store (by rw [a_B];exact U.out.2.1) j Z;rw [<- HZ.out,b_r V j Hk.out] at this;rw [<- HZ.out];exact this
    have H6:Hid (Below w.heap.size w (R2.setCell ⟨g,j,none⟩ (.int .i64 Z))/\Stay g w6 (R2.setCell ⟨g,j,none⟩ (.int .i64 Z))):=⟨(a_c J.out.1 ag).setCell (p:=⟨g,j,none⟩) aL _,(J.out.2.up ag).set _ _⟩
    clear an ag cs cm z0 z1 z2 z3 z4 l0 l1 M b1 ap ar;go_wp2;go_roundg (H - (j+1))
    case measure=>omega
    case rel=>exact ⟨j+1,by omega,rfl,by first|rfl|simp,H5,H6⟩
  ·obtain rfl:j=H:=by omega
   have ai:w.heap.size+1≠g:=by have:=Hg.out;omega
   have L:w.heap.size+2≠g:=by have:=Hg.out;omega
   obtain ⟨M,b1,_,_⟩:=(XB.out.up ad.out.2.1).stay J.out.2 ai;have aE:=(XR.out.up ad.out.2.1).stay J.out.2 L;have ac:=am.out;rw [<- U.out.2.1,b_e,U.out.2.1] at ac;have ay:Hid (OwnK .i64 23 R1 g (.slice (some ⟨g,0,none⟩) j j) V):=ac;have cc:=b_h _ d' U.out.2.2.2.2.2.2 R1 (HN.out.up J.out.1);have aN:Hid (Cel R1 (w.heap.size+2) (.slice none 0 0) (.slice none 0 0)):=aE;clear ac aE ai L;go_wp2_with fail
   refine cc.mono ?_;rintro e w7 ⟨v7,rfl,h7,av⟩;obtain ⟨p7,n7,c7,rfl,_⟩:=h7.nums.lst
   have HF:Hid (TRes (set2 w7 (w.heap.size+2) (.slice p7 n7 c7) (.slice (some ⟨g,0,none⟩) j j)) w.heap.size (.agg #[.slice p7 n7 c7,.slice (some ⟨g,0,none⟩) j j]) d' V/\Below w.heap.size w (set2 w7 (w.heap.size+2) (.slice p7 n7 c7) (.slice (some ⟨g,0,none⟩) j j))):=by
    have hs:g<=R1.heap.size:=Nat.le_of_lt ay.out.size;exact ⟨(TRes.set (h7.low (Nat.le_trans Hg.out.1 hs)) ((ay.out.up av).low Hg.out.1) Hg.out.2.1).low aj.out.size,a_j (a_c J.out.1 av) _ (by omega) _ _⟩
   clear cc h7 M b1;have xr:=(aN.out.up av)
   have cf:=xr.set (.slice p7 n7 c7) (.slice (some ⟨g,0,none⟩) j j);obtain ⟨r0,r1,r2,r3⟩:=xr;obtain ⟨y0,y1,_,_⟩:=cf;go_wp2;exact bodyPost_ret (v:=.tuple #[.agg #[.slice p7 n7 c7,.slice (some ⟨g,0,none⟩) j j],.int .i64 0]) (by simp [results,Tryz.results110,go_sem,y0,y1]) rfl ⟨_,rfl,HF.out⟩
theorem o_n (k:Int) (p M H L:Option Addr) (n c U I J V R O:Nat) (d x d' y:List Int) (hd:RI d) (hx:RI x) (aa:RI d') (hy:RI y) (D:q_u k d x d' y=0) (w:World) (h1:Nums .i64 w (.slice p n c) d) (h2:Nums .i64 w (.slice M U I) x) (h3:Nums .i64 w (.slice H J V) d') (h4:Nums .i64 w (.slice L R O) y):
  Calls Tryz.prog 110 #[.int .i64 k,.agg #[.slice p n c,.slice M U I],.agg #[.slice H J V,.slice L R O]] w fun e w'=>∃ v',e = .returned (.tuple #[v',.int .i64 (q_u k d x d' y)])/\TRes w' w.heap.size v' (o_m k d x d' y) (p_f k d x d' y)/\Below w.heap.size w w':=by
 by_cases h:(1<=k/\k<=5)/\isP d x/\isP d' y
 ·by_cases h':d=d'
  ·exact m_y k p M H L n c U I J V R O d x d' y hd hx aa hy w h1 h2 h3 h4 ⟨h,h'⟩
  ·rw [(q_v h h').1] at D;cases D
 ·rw [(r_Z h).1] at D;cases D
/-- Numbers again and again along a side. -/
def q_x (d:List Nat) (s:Nat) (g:List Int):List Int:=(List.range (a_e d)).map fun j=>g.getD (j / (d.getD s 0*a_e (d.drop (s+1)))*a_e (d.drop (s+1))+j % a_e (d.drop (s+1))) 0
/-- Noughts, but at so many places these numbers. -/
def h_l (N:Nat) (p g:List Int):Nat->List Int
 | 0=>List.replicate N 0
 | k+1=>(h_l N p g k).set (p.getD k 0).toNat (g.getD k 0)
theorem g_3 (N:Nat) (p g:List Int):∀ k,(h_l N p g k).length=N
 | 0=>by simp [h_l]
 | k+1=>by rw [h_l,List.length_set,g_3 N p g k]
abbrev Ten:=List Int×List Int
def c_i (t:Ten) (d:List Int):Ten:=(h_0 t.1 t.2 d,h_1 t.1 t.2 d)
def i_f (s t:Ten):Ten:=(b_x s.1 s.2 t.1 t.2,b_G Fx.mulI s.1 s.2 t.1 t.2)
def q_y (s t:Ten):Ten:=(b_x s.1 s.2 t.1 t.2,b_G (fun a b=>Fx.hold (a+b)) s.1 s.2 t.1 t.2)
def d_g (t:Ten) (k:Int):Ten:=(f_t t.1 t.2,f_u t.1 t.2 k)
def e_B (t:Ten):Ten:=(flD t.1 t.2,flV t.1 t.2)
def mm2 (s t:Ten):Ten:=(mD s.1 s.2 t.1 t.2,mV s.1 s.2 t.1 t.2)
/-- For A. -/
def onA (op k:Int) (a b g:Ten):Ten:=
 if op=2∨op=3 then c_i g a.1 else if op=4 then c_i (i_f g b) a.1 else if op=5 then d_g g k else if op=6 then mm2 g (e_B b) else if op=7 then e_B g
 else if op=8 then (a.1,q_x (ntl a.1) k.toNat g.2) else if op=9 then (a.1,List.replicate (a_e (ntl a.1)) (g.2.getD 0 0)) else if op=10 then (a.1,List.replicate (a_e (ntl a.1)) (Fx.hold (rqI (g.2.getD 0 0) (a.2.length:Int))))
 else if op=11 then (o_m k a.1 a.2 g.1 g.2,p_f k a.1 a.2 g.1 g.2) else if op=12 then (biD g.1 g.2 b.1 b.2 k (a.1.getD 1 0),biV g.1 g.2 b.1 b.2 k (a.1.getD 1 0))
 else if op=13 then (a.1,h_l (a_e (ntl a.1)) (plP a.1 a.2 k) g.2 (plP a.1 a.2 k).length) else if op=14 then (j_B g.1 g.2 a.1,k_4 g.1 g.2 a.1) else ([],[])
/-- For B. -/
def onB (op k:Int) (a b g:Ten):Ten:=
 if op=2 then c_i g b.1 else if op=3 then c_i (d_g g (-4294967296)) b.1 else if op=4 then c_i (i_f g a) b.1 else if op=6 then mm2 (e_B a) g
 else if op=12 then (bkD g.1 g.2 a.1 a.2 k (b.1.getD 2 0),bkV g.1 g.2 a.1 a.2 k (b.1.getD 2 0)) else ([],[])
abbrev b_b (t:Ten):Prop:=c_r t.1 t.2
theorem p_g {t:Ten} {d:List Int} (L:b_b t) (hf:h_Z t.1 t.2 d):b_b (c_i t d)/\(c_i t d).1=d:=by
 obtain ⟨a,b,D⟩:=q_t hf;obtain ⟨_,H,I⟩:=D.V hf;have J:(c_i t d).1=d:=if_pos hf;refine ⟨?_,J⟩;show c_r (h_0 t.1 t.2 d) (h_1 t.1 t.2 d);rw [H,I];refine f_S (f_E D.gb ?_) (j_0 _);exact f_j _ _ _ _ _
/-- What two join to, each is spread to. -/
theorem g_n {d x d' y:List Int} {a b J:List Nat} (h:Joint d x d' y a b J) {g:List Int} (D:isP (itl J) g):h_Z (itl J) g d/\h_Z (itl J) g d':=by
 have H:goodN (joinN a J):=by rw [h.ja];exact h.gJ
 have I:goodN (joinN b J):=by rw [h.jb];exact h.gJ
 obtain ⟨M,L⟩:=b_o h.ga h.gJ h.fa H;obtain ⟨O,R⟩:=b_o h.gb h.gJ h.fb I;refine ⟨⟨⟨D,by rw [h.da,a_o];exact h.ga⟩,?_,?_⟩,⟨D,by rw [h.db,a_o];exact h.gb⟩,?_,?_⟩
 ·rw [h.da];exact L
 ·rw [h.da,M,h.ja]
 ·rw [h.db];exact R
 ·rw [h.db,O,h.jb]
/-- Times one of the two: the shape stays. -/
theorem o_o {t s:Ten} {J b:List Nat} (ht:b_b t) (hs:b_b s) (L:t.1=itl J) (O:s.1=itl b) (M:goodN J) (gb:goodN b) (U:b_W b J) (jb:joinN b J=J):b_b (i_f t s)/\(i_f t s).1=t.1:=by
 have f2:b_W J b:=fun i R h2=>by
  have:=U i R (by omega);rcases this with h|h|h
  ·exact .inl h.symm
  ·exact .inr (.inr h)
  ·exact .inr (.inl h)
 have I:joinN J b=J:=by rw [b_Z];exact jb
 obtain ⟨p1,p2⟩:=b_o M gb f2 (by rw [I];exact M);have hE:b_w t.1 s.1=0:=by rw [L,O];exact p2
 have H:isP t.1 t.2/\isP s.1 s.2:=⟨ht.1,hs.1⟩
 have D:b_u t.1 t.2 s.1 s.2=0:=(if_pos H).trans hE;have V:b_x t.1 t.2 s.1 s.2=t.1:=(if_pos H).trans (by rw [L,O,p1,I]);exact ⟨h_W (fun a b=>e_T a b) D,V⟩
theorem t_b {t s:Ten} (L:b_b t) (U:b_b s) (e:s.1=t.1):b_b (q_y t s)/\(q_y t s).1=t.1:=by
 obtain ⟨a,D,J⟩:=b_k L.1.1;obtain ⟨f,j⟩:=f_k a;obtain ⟨R,O⟩:=b_o D D f (by rw [j];exact D);have I:isP t.1 t.2/\isP s.1 s.2:=⟨L.1,U.1⟩
 have H:b_u t.1 t.2 s.1 s.2=0:=(if_pos I).trans (by rw [e,J];exact O);have M:b_x t.1 t.2 s.1 s.2=t.1:=(if_pos I).trans (by rw [e,J,R,j]);exact ⟨h_W (fun a b=>hold_rng _) H,M⟩
theorem e_X {t:Ten} (D:b_b t) (k:Int):b_b (d_g t k)/\(d_g t k).1=t.1:=⟨m_l (if_pos D.1),if_pos D.1⟩
theorem m_z {n:Nat} {v:Int} (h:InR v):RI (List.replicate n v):=fun y D=>by rw [List.eq_of_mem_replicate D];exact h
theorem q_z {d:List Int} {v:Int} (D:goodN (ntl d)) (h:InR v):c_r d (List.replicate (a_e (ntl d)) v):=f_S ⟨D,by simp⟩ (m_z h)
theorem p_h {N:Nat} {p g:List Int} (D:RI g):∀ k,RI (h_l N p g k)
 | 0=>m_z (by unfold InR;omega)
 | k+1=>fun y H=>by
  rw [h_l] at H;rcases List.mem_or_eq_of_mem_set H with h|h
  ·exact p_h D k y h
  ·rw [h];exact d_d D k
theorem i_L {op k:Int} {a b g:Ten} (ho:op=2∨op=3∨op=4) (ha:b_b a) (hb:b_b b) (hE:b_u a.1 a.2 b.1 b.2=0) (H:b_b g) (eg:g.1=b_x a.1 a.2 b.1 b.2):
  (b_b (onA op k a b g)/\(onA op k a b g).1=a.1)/\b_b (onB op k a b g)/\(onB op k a b g).1=b.1:=by
 have O:isP a.1 a.2/\isP b.1 b.2:=⟨ha.1,hb.1⟩
 have hj:b_w a.1 b.1=0:=(if_pos O).symm.trans hE;obtain ⟨A,B,J,h⟩:=n_L O hj;have L:g.1=itl J:=eg.trans (h.E (op:=fun a b=>a)).2.1;have pg:∀ t:Ten,b_b t->t.1=g.1->isP (itl J) t.2:=fun t I M=>by rw [<- L,<- M];exact I.1
 have D:∀ t:Ten,b_b t->t.1=g.1->(b_b (c_i t a.1)/\(c_i t a.1).1=a.1)/\b_b (c_i t b.1)/\(c_i t b.1).1=b.1:=fun t I M=>by
  have hf:=g_n h (pg t I M);rw [<- L,<- M] at hf;exact ⟨p_g I hf.1,p_g I hf.2⟩
 rcases ho with rfl|rfl|rfl
 ·exact D g H rfl
 ·have V:=e_X H (-4294967296);exact ⟨(D g H rfl).1,(D _ V.1 V.2).2⟩
 ·have R:=o_o H hb L h.db h.gJ h.gb h.fb h.jb;have U:=o_o H ha L h.da h.gJ h.ga h.fa h.ja;exact ⟨(D _ R.1 R.2).1,(D _ U.1 U.2).2⟩
theorem g_4 {H D:Nat} {x:List Int} (h:c_r [(H:Int),(D:Int)] x):b_b (e_B ([(H:Int),(D:Int)],x))/\(e_B ([(H:Int),(D:Int)],x)).1 = [(D:Int),(H:Int)]:=by
 have I:flE [(H:Int),(D:Int)] x=0:=(if_pos h.1).trans (if_pos rfl);exact ⟨t_z h.2.2 I,if_pos ⟨h.1,rfl⟩⟩
theorem p_i {A C E:Nat} {x y:List Int} (H:c_r [(A:Int),(C:Int)] x) (I:c_r [(C:Int),(E:Int)] y) (D:goodN (ntl [(A:Int),(E:Int)])):b_b (mm2 ([(A:Int),(C:Int)],x) ([(C:Int),(E:Int)],y))/\(mm2 ([(A:Int),(C:Int)],x) ([(C:Int),(E:Int)],y)).1 = [(A:Int),(E:Int)]:=by
 have J:mP [(A:Int),(C:Int)] x [(C:Int),(E:Int)] y:=⟨⟨H.1,I.1⟩,rfl,rfl,rfl⟩
 have L:mE [(A:Int),(C:Int)] x [(C:Int),(E:Int)] y=0:=(if_pos ⟨H.1,I.1⟩).trans ((if_pos J).trans (if_pos D));exact ⟨m_g L,if_pos ⟨J,D⟩⟩
theorem r_0 {k:Int} {a b g:Ten} (O:b_b a) (hb:b_b b) (H:mE a.1 a.2 b.1 b.2=0) (hg:b_b g) (eg:g.1=mD a.1 a.2 b.1 b.2):
  (b_b (onA 6 k a b g)/\(onA 6 k a b g).1=a.1)/\b_b (onB 6 k a b g)/\(onB 6 k a b g).1=b.1:=by
 have D:mP a.1 a.2 b.1 b.2/\mG a.1 b.1:=by
  unfold mE at H;by_cases V:isP a.1 a.2/\isP b.1 b.2
  ·rw [if_pos V] at H;by_cases R:mP a.1 a.2 b.1 b.2
   ·rw [if_pos R] at H;by_cases hq:mG a.1 b.1
    ·exact ⟨R,hq⟩
    ·rw [if_neg hq] at H;cases H
   ·rw [if_neg R] at H;cases H
  ·rw [if_neg V] at H;cases H
 have M:=eg.trans (if_pos D);obtain ⟨aD,aX⟩:=a;obtain ⟨bD,bX⟩:=b;obtain ⟨gD,gX⟩:=g;obtain ⟨A,C,rfl,_⟩:=a_X O.1 D.1.2.2.1;obtain ⟨C',E,rfl,_⟩:=a_X hb.1 D.1.2.1;obtain rfl:C=C':=by have:=D.1.2.2.2;simp at this;omega
 have L:gD = [(A:Int),(E:Int)]:=M;subst L;have I:=g_4 hb;have J:=g_4 O;have U:e_B ([(C:Int),(E:Int)],bX)=([(E:Int),(C:Int)],(e_B ([(C:Int),(E:Int)],bX)).2):=Prod.ext I.2 rfl;have e2:e_B ([(A:Int),(C:Int)],aX)=([(C:Int),(A:Int)],(e_B ([(A:Int),(C:Int)],aX)).2):=Prod.ext J.2 rfl;rw [U] at I;rw [e2] at J;refine ⟨?_,?_⟩
 ·show b_b (mm2 _ (e_B _))/\(mm2 _ (e_B _)).1=_;rw [U];exact p_i hg I.1 O.1.1
 ·show b_b (mm2 (e_B _) _)/\(mm2 (e_B _) _).1=_;rw [e2];exact p_i J.1 hg hb.1.1
theorem r_1 {k:Int} {a b g:Ten} (J:b_b a) (hb:b_b b) (D:rwE a.1 a.2 b.1 b.2 k=0) (hg:b_b g) (eg:g.1=rwD a.1 a.2 b.1 b.2 k):
  (b_b (onA 12 k a b g)/\(onA 12 k a b g).1=a.1)/\b_b (onB 12 k a b g)/\(onB 12 k a b g).1=b.1:=by
 have aa:rwA a.1 a.2 b.1 b.2 k/\rwS a.1 b.1/\goodN (ntl (rwO a.1 b.1 k)):=by
  unfold rwE at D;by_cases hp:rwA a.1 a.2 b.1 b.2 k
  ·rw [if_pos hp] at D;by_cases V:rwS a.1 b.1
   ·rw [if_pos V] at D;unfold f_1 at D;by_cases hq:goodN (ntl (rwO a.1 b.1 k))
    ·exact ⟨hp,V,hq⟩
    ·rw [if_neg hq] at D;cases D
   ·rw [if_neg V] at D;cases D
  ·rw [if_neg hp] at D;cases D
 obtain ⟨M,I,hG⟩:=aa;have ab:g.1=rwO a.1 b.1 k:=eg.trans ((if_pos ⟨M,I⟩).trans (if_pos hG));obtain ⟨st,rfl⟩:∃ q:Nat,k=q:=⟨k.toNat,by have:=M.2.2;omega⟩
 obtain ⟨aD,aX⟩:=a;obtain ⟨bD,bX⟩:=b;obtain ⟨gD,gX⟩:=g;obtain ⟨R,L,rfl,ac,k0,k1,k2⟩:=a_X J.1 I.1;obtain ⟨O,R',wd,rfl,ad,l0,l1,l2,l3⟩:=c_d hb.1 I.2.1;obtain rfl:R=R':=by have:=I.2.2.1;simp at this;omega
 have hw:wd<=L:=by have:=I.2.2.2;simp at this;omega
 obtain ⟨S,H⟩:∃ S,a_L L wd st=S:=⟨_,rfl⟩
 have U:gD = [(O:Int),(S:Int)]:=ab.trans (by rw [<- H];rfl);subst U;have z:=c_M k2 k0 k1;have zw:wd<=4096:=by omega
 have b1:biA [(O:Int),(S:Int)] gX [(O:Int),(R:Int),(wd:Int)] bX st L:=⟨hg.1,hb.1,M.2.2,by omega,by omega⟩
 have b2:biA [(O:Int),(S:Int)] gX [(R:Int),(L:Int)] aX st wd:=⟨hg.1,J.1,M.2.2,by omega,by omega⟩
 obtain ⟨_,e2,e3⟩:=i_A b1 hw H;obtain ⟨_,f2,f3⟩:=i_B b2 hw H;refine ⟨?_,?_⟩
 ·show c_r (biD _ _ _ _ _ _) (biV _ _ _ _ _ _)/\biD _ _ _ _ _ _=_;rw [show ((([(R:Int),(L:Int)],aX):Ten).1.getD 1 0)=(L:Int) from rfl,e2,e3];unfold d_S;rw [if_pos J.1.1,if_pos J.1.1];refine ⟨f_S ⟨J.1.1,?_⟩ ?_,rfl⟩
  ·rw [l_3];exact (c_k R L).symm
  ·unfold h_T;exact c_z fun i _=>by unfold k_E rnd;exact hold_rng _
 ·show c_r (bkD _ _ _ _ _ _) (bkV _ _ _ _ _ _)/\bkD _ _ _ _ _ _=_;rw [show ((([(O:Int),(R:Int),(wd:Int)],bX):Ten).1.getD 2 0)=(wd:Int) from rfl,f2,f3];unfold d_S;rw [if_pos hb.1.1,if_pos hb.1.1];refine ⟨f_S ⟨hb.1.1,?_⟩ ?_,rfl⟩
  ·rw [n_9];exact (e_t O R wd).symm
  ·unfold o_9;exact c_z fun i _=>by unfold r_B rnd;exact hold_rng _
/-- An Op of one node. -/
theorem r_2 {op k:Int} {a g:Ten} (ho:op=5∨op=7∨op=8∨op=9∨op=10∨op=11∨op=13∨op=14) (H:b_b a) (U:rkE op a.1 a.2 [] [] k=0) (I:b_b g) (L:g.1=rkD op a.1 a.2 [] [] k):
  b_b (onA op k a ([],[]) g)/\(onA op k a ([],[]) g).1=a.1:=by
 rcases ho with rfl|rfl|rfl|rfl|rfl|rfl|rfl|rfl
 ·have e:g.1=a.1:=L.trans (if_pos H.1);have h:=e_X I k;exact ⟨h.1,h.2.trans e⟩
 ·have D:flE a.1 a.2=0:=U
  have M:a.1.length=2:=by
   unfold flE at D;rw [if_pos H.1] at D;by_cases h:a.1.length=2
   ·exact h
   ·rw [if_neg h] at D;cases D
  obtain ⟨aD,aX⟩:=a;obtain ⟨gD,gX⟩:=g;obtain ⟨R,O,rfl,_⟩:=a_X H.1 M;have e0:flD [(R:Int),(O:Int)] aX = [(O:Int),(R:Int)]:=if_pos ⟨H.1,rfl⟩;have e:gD = [(O:Int),(R:Int)]:=L.trans e0;subst e;exact g_4 I
 ·show c_r a.1 (q_x (ntl a.1) k.toNat g.2)/\a.1=a.1;refine ⟨f_S ⟨H.1.1,by unfold q_x;simp⟩ ?_,rfl⟩;unfold q_x;exact c_z fun j _=>d_d I.2.2 _
 ·exact ⟨q_z H.1.1 (d_d I.2.2 _),rfl⟩
 ·exact ⟨q_z H.1.1 (hold_rng _),rfl⟩
 ·have D:f_2 k a.1 a.2=0:=U
  have hk:(1<=k/\k<=5)/\isP a.1 a.2:=by
   unfold f_2 at D;by_cases h:(1<=k/\k<=5)/\isP a.1 a.2
   ·exact h
   ·rw [if_neg h] at D;cases D
  have e:g.1=a.1:=L.trans (if_pos hk);have J:((1<=k/\k<=5)/\isP a.1 a.2/\isP g.1 g.2)/\a.1=g.1:=⟨⟨hk.1,H.1,I.1⟩,e.symm⟩
  show c_r (o_m k a.1 a.2 g.1 g.2) (p_f k a.1 a.2 g.1 g.2)/\o_m k a.1 a.2 g.1 g.2=a.1;unfold o_m p_f;rw [if_pos J,if_pos J];refine ⟨f_S ⟨I.1.1,?_⟩ (c_z fun i _=>e_T _ _),e⟩;rw [List.length_map,List.length_range,e];exact H.1.2
 ·refine ⟨f_S ⟨H.1.1,g_3 _ _ _ _⟩ (p_h I.2.2 _),rfl⟩
 ·have D:j_A a.1 a.2 [(a.2.length:Int)]=0:=U
  have J:(isP a.1 a.2/\goodN (ntl [(a.2.length:Int)]))/\a_e (ntl [(a.2.length:Int)])=a.2.length:=by
   unfold j_A at D;by_cases h:isP a.1 a.2/\goodN (ntl [(a.2.length:Int)])
   ·rw [if_pos h] at D;by_cases M:a_e (ntl [(a.2.length:Int)])=a.2.length
    ·exact ⟨h,M⟩
    ·rw [if_neg M] at D;cases D
   ·rw [if_neg h] at D;cases D
  have e:g.1 = [(a.2.length:Int)]:=L.trans (if_pos J);have hl:g.2.length=a.2.length:=by rw [I.1.2,e];exact J.2
  have V:(isP g.1 g.2/\goodN (ntl a.1))/\a_e (ntl a.1)=g.2.length:=⟨⟨I.1,H.1.1⟩,by rw [hl];exact H.1.2.symm⟩
  show c_r (j_B g.1 g.2 a.1) (k_4 g.1 g.2 a.1)/\j_B g.1 g.2 a.1=a.1;unfold j_B k_4;rw [if_pos V,if_pos V];exact ⟨f_S ⟨H.1.1,V.2.symm⟩ I.2.2,rfl⟩
/-- A node that was reckoned of those ahead of it. -/
def NdV (ns:List Nd) (i:Nat) (nd:Nd):Prop:=
 (nd.op=1/\nd.a = -1/\nd.b = -1)∨((2<=nd.op/\nd.op<=14)/\(0<=nd.a/\nd.a < (i:Int))/\(c_0 nd.op->0<=nd.b/\nd.b < (i:Int))/\(¬ c_0 nd.op->nd.b = -1)
  /\ rkE nd.op (ndN ns nd.a).D (ndN ns nd.a).X (dD ns nd.op nd.b) (dX ns nd.op nd.b) nd.k=0/\nd.D=rkD nd.op (ndN ns nd.a).D (ndN ns nd.a).X (dD ns nd.op nd.b) (dX ns nd.op nd.b) nd.k)
def NodesV (ns:List Nd):Prop:=∀ i nd,ns[i]?=some nd->NdV ns i nd
theorem j_1 {ns:List Nd} {x:Nd} {i:Int} (H:0<=i) (D:i < (ns.length:Int)):ndN (ns++[x]) i=ndN ns i:=by
 unfold ndN;rw [List.getD_eq_getElem?_getD,List.getD_eq_getElem?_getD,List.getElem?_append_left (by omega)]
theorem NdV.push {ns:List Nd} {i:Nat} {nd x:Nd} (h:NdV ns i nd) (U:i<=ns.length):NdV (ns++[x]) i nd:=by
 rcases h with h|⟨L,H,I,R,M⟩
 ·exact .inl h
 ·have O:ndN (ns++[x]) nd.a=ndN ns nd.a:=j_1 H.1 (by omega)
  have J:dD (ns++[x]) nd.op nd.b=dD ns nd.op nd.b/\dX (ns++[x]) nd.op nd.b=dX ns nd.op nd.b:=by
   unfold dD dX;by_cases D:c_0 nd.op
   ·have:=I D;rw [if_pos D,if_pos D,if_pos D,if_pos D,j_1 this.1 (by omega)];exact ⟨rfl,rfl⟩
   ·rw [if_neg D,if_neg D,if_neg D,if_neg D];exact ⟨rfl,rfl⟩
  refine .inr ⟨L,H,I,R,?_⟩;rw [O,J.1,J.2];exact M
theorem NodesV.nil:NodesV []:=fun i nd h=>by simp at h
theorem NodesV.push {ns:List Nd} {x:Nd} (h:NodesV ns) (J:NdV ns ns.length x):NodesV (ns++[x]):=fun i nd D=>by
 by_cases I:i < ns.length
 ·rw [List.getElem?_append_left I] at D;exact (h i nd D).push (by omega)
 ·rw [List.getElem?_append_right (by omega)] at D
  have H:i - ns.length=0:=by
   rcases Nat.eq_zero_or_pos (i - ns.length) with e|e
   ·exact e
   ·rw [List.getElem?_eq_none (by simp;omega)] at D;cases D
  rw [H] at D;cases D;obtain rfl:i=ns.length:=by omega
  exact J.push (Nat.le_refl _)
theorem NodesV.leaf {ns:List Nd} {d x:List Int} (h:NodesV ns):NodesV (c_B ns d x):=by
 unfold c_B
 split
 ·exact h.push (.inl ⟨rfl,rfl,rfl⟩)
 ·exact h
theorem NodesV.do {ns:List Nd} {op a b k:Int} (h:NodesV ns):NodesV (doN ns op a b k):=by
 unfold doN
 split
 ·rename_i I
  have H:=I.1.2
  have J:dD ns op (dB op b)=dD ns op b/\dX ns op (dB op b)=dX ns op b:=by
   unfold dD dX dB;by_cases D:c_0 op
   ·simp only [if_pos D];exact ⟨trivial,trivial⟩
   ·simp only [if_neg D];exact ⟨trivial,trivial⟩
  refine h.push (.inr ⟨H.1,H.2.1,fun D=>?_,fun D=>if_neg D,?_⟩)
  ·have e:(dN ns op a b k).b=b:=if_pos D;rw [e];exact H.2.2 D
  ·show rkE op _ _ (dD ns op (dB op b)) (dX ns op (dB op b)) _=0/\rkD op _ _ _ _ _=rkD op _ _ (dD ns op (dB op b)) (dX ns op (dB op b)) _;rw [J.1,J.2];exact ⟨I.2,rfl⟩
 ·exact h
/-- The two that a node is of. -/
def aOf (ns:List Nd) (nd:Nd):Ten:=((ndN ns nd.a).D,(ndN ns nd.a).X)
def bOf (ns:List Nd) (nd:Nd):Ten:=(dD ns nd.op nd.b,dX ns nd.op nd.b)
/-- What a gradient of a node gives is of their shapes. -/
theorem t_A {ns:List Nd} (U:NodesG ns) (hV:NodesV ns) {i:Nat} {nd:Nd} (R:ns[i]?=some nd) (h1:nd.op≠1) {g:Ten} (O:b_b g) (eg:g.1=nd.D):
  (b_b (onA nd.op nd.k (aOf ns nd) (bOf ns nd) g)/\(onA nd.op nd.k (aOf ns nd) (bOf ns nd) g).1=(aOf ns nd).1)/\(c_0 nd.op->b_b (onB nd.op nd.k (aOf ns nd) (bOf ns nd) g)/\(onB nd.op nd.k (aOf ns nd) (bOf ns nd) g).1=(bOf ns nd).1):=by
 have hl:i < ns.length:=(List.getElem?_eq_some_iff.1 R).1;rcases hV i nd R with h|⟨ho,ha,hb,aa,I,hD⟩
 ·exact absurd h.1 h1
 have M:b_b (aOf ns nd):=U.at ha.1 (by omega)
 have gb:c_0 nd.op->b_b (bOf ns nd):=fun L=>by
  have:=hb L;show c_r (dD ns nd.op nd.b) (dX ns nd.op nd.b);unfold dD dX;rw [if_pos L,if_pos L];exact U.at this.1 (by omega)
 have H:=eg.trans hD;by_cases L:c_0 nd.op
 ·have J:=gb L;rcases L with e|e|e|e|e
  ·rw [e] at I H ⊢;have:=i_L (op:=2) (k:=nd.k) (.inl rfl) M J (by rw [show bOf ns nd=(dD ns 2 nd.b,dX ns 2 nd.b) by unfold bOf;rw [e]];exact I) O (by rw [show bOf ns nd=(dD ns 2 nd.b,dX ns 2 nd.b) by unfold bOf;rw [e]];exact H);exact ⟨this.1,fun _=>this.2⟩
  ·rw [e] at I H ⊢;have:=i_L (op:=3) (k:=nd.k) (.inr (.inl rfl)) M J (by rw [show bOf ns nd=(dD ns 3 nd.b,dX ns 3 nd.b) by unfold bOf;rw [e]];exact I) O (by rw [show bOf ns nd=(dD ns 3 nd.b,dX ns 3 nd.b) by unfold bOf;rw [e]];exact H);exact ⟨this.1,fun _=>this.2⟩
  ·rw [e] at I H ⊢;have:=i_L (op:=4) (k:=nd.k) (.inr (.inr rfl)) M J (by rw [show bOf ns nd=(dD ns 4 nd.b,dX ns 4 nd.b) by unfold bOf;rw [e]];exact I) O (by rw [show bOf ns nd=(dD ns 4 nd.b,dX ns 4 nd.b) by unfold bOf;rw [e]];exact H);exact ⟨this.1,fun _=>this.2⟩
  ·rw [e] at I H ⊢;have:=r_0 (k:=nd.k) M J (by rw [show bOf ns nd=(dD ns 6 nd.b,dX ns 6 nd.b) by unfold bOf;rw [e]];exact I) O (by rw [show bOf ns nd=(dD ns 6 nd.b,dX ns 6 nd.b) by unfold bOf;rw [e]];exact H);exact ⟨this.1,fun _=>this.2⟩
  ·rw [e] at I H ⊢;have:=r_1 (k:=nd.k) M J (by rw [show bOf ns nd=(dD ns 12 nd.b,dX ns 12 nd.b) by unfold bOf;rw [e]];exact I) O (by rw [show bOf ns nd=(dD ns 12 nd.b,dX ns 12 nd.b) by unfold bOf;rw [e]];exact H);exact ⟨this.1,fun _=>this.2⟩
 ·have eb:bOf ns nd=([],[]):=Prod.ext (if_neg L) (if_neg L);have V:dD ns nd.op nd.b = []:=if_neg L;have e2:dX ns nd.op nd.b = []:=if_neg L;rw [V,e2] at I H;rw [eb];exact ⟨r_2 (by omega) M I O H,fun h=>absurd h L⟩
def noT:Ten:=([],[])
/-- The gradients so far, and which were given anything. -/
abbrev SwT:=List Ten×List Bool
def sw0 (ns:List Nd) (root:Nat):SwT:=(((List.range (root+1)).map fun (i:Nat)=>((ndN ns (i:Int)).D,List.replicate (ndN ns (i:Int)).X.length (0:Int))).set root ((ndN ns (root:Int)).D,[4294967296]),(List.replicate (root+1) false).set root true)
def c_C (s:SwT) (j:Nat) (p:Ten):SwT:=(s.1.set j (q_y (s.1.getD j noT) p),s.2.set j true)
def c_m (ns:List Nd) (i:Nat) (s:SwT):SwT:=
 if s.2.getD i false=true/\(ndN ns (i:Int)).op≠1 then
  if 0<=(ndN ns (i:Int)).b then c_C (c_C s (ndN ns (i:Int)).a.toNat (onA (ndN ns (i:Int)).op (ndN ns (i:Int)).k (aOf ns (ndN ns (i:Int))) (bOf ns (ndN ns (i:Int))) (s.1.getD i noT))) (ndN ns (i:Int)).b.toNat (onB (ndN ns (i:Int)).op (ndN ns (i:Int)).k (aOf ns (ndN ns (i:Int))) (bOf ns (ndN ns (i:Int))) (s.1.getD i noT))
  else c_C s (ndN ns (i:Int)).a.toNat (onA (ndN ns (i:Int)).op (ndN ns (i:Int)).k (aOf ns (ndN ns (i:Int))) (bOf ns (ndN ns (i:Int))) (s.1.getD i noT))
 else s
def swK (ns:List Nd) (root:Nat):Nat->SwT
 | 0=>sw0 ns root
 | k+1=>c_m ns (root - k) (swK ns root k)
def swE (ns:List Nd) (root:Int):Int:=if 0<=root/\root < (ns.length:Int) then if (ndN ns root).X.length=1 then 0 else 4 else 1
def swL (ns:List Nd) (root:Int):List Ten:=if swE ns root=0 then (swK ns root.toNat (root.toNat+1)).1 else []
/-- Gradients of the nodes' shapes. -/
structure SwG (ns:List Nd) (root:Nat) (s:SwT):Prop where
 l:s.1.length=root+1
 v:s.2.length=root+1
 g:∀ i:Nat,i<=root->b_b (s.1.getD i noT)/\(s.1.getD i noT).1=(ndN ns (i:Int)).D
theorem j_2 {α:Type} (l:List α) (i j:Nat) (x y:α) (D:i < l.length):(l.set i x).getD j y=if i=j then x else l.getD j y:=by
 rw [List.getD_eq_getElem?_getD,List.getD_eq_getElem?_getD,List.getElem?_set];by_cases h:i=j
 ·subst h;simp [D]
 ·simp [h]
theorem SwG.give {ns:List Nd} {root:Nat} {s:SwT} (h:SwG ns root s) {j:Nat} {p:Ten} (L:j<=root) (M:b_b p) (O:p.1=(ndN ns (j:Int)).D):SwG ns root (c_C s j p):=by
 refine ⟨by simp [c_C,h.l],by simp [c_C,h.v],fun i R=>?_⟩;have I:j < s.1.length:=by rw [h.l];omega
 show b_b ((s.1.set j (q_y (s.1.getD j noT) p)).getD i noT)/\((s.1.set j (q_y (s.1.getD j noT) p)).getD i noT).1=_;rw [j_2 _ _ _ _ _ I];by_cases e:j=i
 ·subst e;rw [if_pos rfl];have H:=h.g j L;have J:=t_b H.1 M (O.trans H.2.symm);exact ⟨J.1,J.2.trans H.2⟩
 ·rw [if_neg e];exact h.g i R
theorem c_S {ns:List Nd} {i:Nat} (h:i < ns.length):ns[i]?=some (ndN ns (i:Int)):=by
 have:=List.getElem?_eq_getElem h;rw [this,k_J this]
theorem t_c {ns:List Nd} (M:NodesG ns) {root:Nat} (O:root < ns.length) (L:(ndN ns (root:Int)).X.length=1):SwG ns root (sw0 ns root):=by
 refine ⟨by simp [sw0],by simp [sw0],fun i R=>?_⟩;have I:i < ns.length:=by omega
 have H:c_r (ndN ns (i:Int)).D (ndN ns (i:Int)).X:=M _ (f_J (c_S I));show b_b ((List.set _ root _).getD i noT)/\((List.set _ root _).getD i noT).1=_;rw [j_2 _ _ _ _ _ (by simp)];by_cases e:root=i
 ·subst e;rw [if_pos rfl];refine ⟨f_S ⟨H.1.1,?_⟩ ?_,rfl⟩
  ·rw [<- H.1.2,L];rfl
  ·intro y J;simp at J;subst J;omega
 ·rw [if_neg e,List.getD_eq_getElem?_getD,List.getElem?_map,List.getElem?_range (by omega)];show c_r (ndN ns (i:Int)).D (List.replicate (ndN ns (i:Int)).X.length 0)/\(ndN ns (i:Int)).D=_;refine ⟨f_S ⟨H.1.1,?_⟩ (m_z (by unfold InR;omega)),rfl⟩;rw [List.length_replicate];exact H.1.2
theorem SwG.step {ns:List Nd} (hG:NodesG ns) (U:NodesV ns) {root i:Nat} {s:SwT} (h:SwG ns root s) (hr:root < ns.length) (hi:i<=root):SwG ns root (c_m ns i s):=by
 unfold c_m;have H:i < ns.length:=by omega
 split
 ·rename_i M
  have R:=h.g i hi;obtain ⟨O,V⟩:=t_A hG U (c_S H) M.2 R.1 R.2;rcases U i _ (c_S H) with hh|⟨ho,ha,hb,J,_⟩
  ·exact absurd hh.1 M.2
  have L:=h.give (j:=(ndN ns (i:Int)).a.toNat) (by omega) O.1 (O.2.trans (by rw [Int.toNat_of_nonneg ha.1];rfl))
  split
  ·rename_i aa
   have D:c_0 (ndN ns (i:Int)).op:=by
    by_cases D:c_0 (ndN ns (i:Int)).op
    ·exact D
    ·have:=J D;omega
   have q:=V D;have I:=hb D;refine L.give (by omega) q.1 (q.2.trans ?_);show dD ns _ _=_;unfold dD;rw [if_pos D,Int.toNat_of_nonneg I.1]
  ·exact L
 ·exact h
theorem q_A {ns:List Nd} (H:NodesG ns) (J:NodesV ns) {root:Nat} (D:root < ns.length) (I:(ndN ns (root:Int)).X.length=1):∀ k,SwG ns root (swK ns root k)
 | 0=>t_c H D I
 | k+1=>(q_A H J D I k).step H J D (by omega)
end Go.Proofs.YtjlofobnmjompaaGreatDoor.Wd
