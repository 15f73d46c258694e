/- act.Back: what it hands back. · What a g -/
import Derived.Test.YtjlofobnmjompaaGreatDoorP17
import Derived.Test.YtjlofobnmjompaaGreatDoorP18
set_option linter.unusedVariables false
set_option linter.unusedSimpArgs false
set_option maxHeartbeats 16000000
set_option maxRecDepth 16000
namespace Go.Proofs.YtjlofobnmjompaaGreatDoor.Wd
open Go.RowKit Fx
def q_w (k:Int) (d x d' y:List Int):Int:=if (1<=k/\k<=5)/\isP d x/\isP d' y then if d=d' then 0 else 4 else 1
def o_v (k:Int) (d x d' y:List Int):List Int:=if ((1<=k/\k<=5)/\isP d x/\isP d' y)/\d=d' then d' else []
def p_h (k:Int) (d x d' y:List Int):List Int:=if ((1<=k/\k<=5)/\isP d x/\isP d' y)/\d=d' then (List.range x.length).map fun i=>Fx.mulI (y.getD i 0) (Fx.slopeI k (x.getD i 0)) else []
theorem r_Y {k:Int} {d x d' y:List Int} (h:¬ ((1<=k/\k<=5)/\isP d x/\isP d' y)):q_w k d x d' y=1/\o_v k d x d' y = []/\p_h k d x d' y = []:=⟨if_neg h,if_neg fun D=>h D.1,if_neg fun D=>h D.1⟩
theorem q_x {k:Int} {d x d' y:List Int} (h:(1<=k/\k<=5)/\isP d x/\isP d' y) (E:¬ d=d'):q_w k d x d' y=4/\o_v k d x d' y = []/\p_h k d x d' y = []:=⟨(if_pos h).trans (if_neg E),if_neg fun D=>E D.2,if_neg fun D=>E D.2⟩
theorem q_y {k:Int} {d x d' y:List Int} (h:(1<=k/\k<=5)/\isP d x/\isP d' y) (D:d=d'):q_w k d x d' y=0/\o_v k d x d' y=d'/\p_h k d x d' y=(List.range x.length).map fun i=>Fx.mulI (y.getD i 0) (Fx.slopeI k (x.getD i 0)):=⟨(if_pos h).trans (if_pos D),if_pos ⟨h,D⟩,if_pos ⟨h,D⟩⟩
theorem m_D (k:Int) (p p2 p3 p4:Option Addr) (n c n2 c2 n3 c3 E c4:Nat) (d x d' y:List Int) (hd:RI d) (hx:RI x) (aD:RI d') (hy:RI y) (w:World) (h1:Nums .i64 w (.slice p n c) d) (h2:Nums .i64 w (.slice p2 n2 c2) x) (h3:Nums .i64 w (.slice p3 n3 c3) d') (h4:Nums .i64 w (.slice p4 E c4) y) (D:((1<=k/\k<=5)/\isP d x/\isP d' y)/\d=d'):
  Calls Tryz.prog 110 #[.int .i64 k,.agg #[.slice p n c,.slice p2 n2 c2],.agg #[.slice p3 n3 c3,.slice p4 E c4]] w fun e w'=>∃ v',e = .returned (.tuple #[v',.int .i64 (q_w k d x d' y)])/\TRes w' w.heap.size v' (o_v k d x d' y) (p_h k d x d' y)/\Below w.heap.size w w':=by
 have cA:=fun W (hW:Below w.heap.size w W)=>a_C _ _ d x hd W (h1.up hW) (h2.up hW);have cB:=fun W (hW:Below w.heap.size w W)=>a_C _ _ d' y aD W (h3.up hW) (h4.up hW);have hk:=D.1.1;obtain ⟨K1,K2,e1,e2,f1,f2,cl⟩:=j_T k hk;rw [decide_eq_true D.1.2.1] at cA;rw [decide_eq_true D.1.2.2] at cB;have hP:isP d x/\isP d' y:=D.1.2;have cQ:=fun W (hW:Below w.heap.size w W)=>f_c _ _ d d' (by have:=hP.1.1.1;rw [a_R] at this;omega) W (h1.up hW) (h3.up hW);rw [decide_eq_true D.2] at cQ;obtain ⟨q1,q2,q3⟩:=q_y D.1 D.2;rw [q1,q2,q3];obtain ⟨V,eV⟩:∃ V,((List.range x.length).map fun i=>Fx.mulI (y.getD i 0) (Fx.slopeI k (x.getD i 0)))=V:=⟨_,rfl⟩
 rw [eV];have HN:Hid (Nums .i64 w (.slice p3 n3 c3) d'):=h3;obtain ⟨_,_,_,e4,HX⟩:=h2.lst;cases e4;obtain ⟨_,_,_,e4,HY⟩:=h4.lst;cases e4;have aj:x.length=y.length:=by rw [D.1.2.1.2,D.1.2.2.2,D.2]
 have aA:x.length<=4096:=by rw [D.1.2.1.2];exact D.1.2.1.1.2.2
 have aE:d'.length<=1073741824:=by have:=D.1.2.2.1.1;rw [a_R] at this;omega
 rw [aj,HY.out.1] at aA;obtain rfl:E=n2:=by rw [<- HX.out.1,<- HY.out.1,aj]
 have aG:(E:Int)<=4096:=by omega
 have U:Hid (((List.range x.length).map fun i=>Fx.mulI (y.getD i 0) (Fx.slopeI k (x.getD i 0)))=V/\V.length=E/\RI x/\RI y/\x.length=E/\y.length=E/\d'.length<=1073741824):=⟨eV,by rw [<- eV,List.length_map,List.length_range];exact HX.out.1,hx,hy,HX.out.1,HY.out.1,aE⟩
 have aK:Hid (∀ x W,Calls Tryz.prog K2 #[.int .i64 x] W fun e w'=>e = .returned (.int .i64 (slopeI k x))/\w'=W):=f2;have aF:Hid (∀ args W,(callFunc K2 args).run Tryz.prog W = .ok (.enter K2 args) W):=e2;haveI:Nonempty World:=⟨w⟩
 clear q1 q2 q3 eV h1 h2 h3 h4 hd hx aD hy hk D hP f1 f2 e1 e2 aj aE;go_enter Tryz.func110,Tryz.ntmps110;go_wp2_with fail
 generalize R:World.alloc _ _=W0;have ao:=b_W (w:=w) R (by go_grown);have XA:Hid (Cel W0 w.heap.size (.slice p n c) (.slice p2 E c2)):=a_F R (by simp [go_sem]);have XB:Hid (Cel W0 (w.heap.size+1) (.slice p3 n3 c3) (.slice p4 E c4)):=a_F R (by simp [go_sem]);have XR:Hid (Cel W0 (w.heap.size+2) (.slice none 0 0) (.slice none 0 0)):=a_F R (by simp [go_sem]);clear R;refine (cl W0).mono ?_;rintro e w1 ⟨rfl,ap⟩;have aa:=a_N (a_c ao.out ap) ap;clear ap cl;obtain ⟨a0,a1,_,_⟩:=XA.out.up (aa.out.2);have z0:=a_a a0;obtain ⟨L,b1,_,_⟩:=XB.out.up (aa.out.2);have z1:=a_a L;go_wp2_with fail
 generalize av:World.alloc _ _=W2;have B2:Below w1.heap.size w1 W2:=by rw [<- av];exact a_b w1 _
 have XL:Hid (Cel W2 w1.heap.size (.func (.func K1) #[] #[]) (.func (.func K2) #[] #[])):=by show Cel _ _ _ _;unfold Cel;rw [<- av];simp [go_sem]
 have ar:=a_N (a_c aa.out.1 B2) (a_c aa.out.2 B2);have HL:Hid (W0.heap.size<=w1.heap.size):=aa.out.2.size;obtain ⟨bl,aO⟩:∃ bl,w1.heap.size=bl:=⟨_,rfl⟩
 rw [aO] at XL HL ⊢;clear av B2;refine (cA W2 ar.out.1).mono ?_;rintro e w3 ⟨rfl,ag⟩;have ab:Hid (Below w.heap.size w w3/\Below W0.heap.size W0 w3/\Below W2.heap.size W2 w3):=⟨a_c ar.out.1 ag,a_c ar.out.2 ag,ag⟩
 clear ag cA a0 a1 z0 L b1 z1;obtain ⟨L,b1,_,_⟩:=XB.out.up (ab.out.2.1);have z1:=a_a L;go_wp2_with fail
 refine (cB w3 ab.out.1).mono ?_;rintro e w4 ⟨rfl,ae⟩;have O:Hid (Below w.heap.size w w4/\Below W0.heap.size W0 w4/\Below W2.heap.size W2 w4):=⟨a_c ab.out.1 ae,a_c ab.out.2.1 ae,a_c ab.out.2.2 ae⟩
 clear ae cB L b1 z1;obtain ⟨a0,a1,_,_⟩:=XA.out.up (O.out.2.1);have z0:=a_a a0;obtain ⟨L,b1,_,_⟩:=XB.out.up (O.out.2.1);have z1:=a_a L;go_wp2_with fail
 refine (cQ w4 O.out.1).mono ?_;rintro e w5 ⟨rfl,mq,rfl⟩;have H:Hid (Below w.heap.size w (w4.drewN mq)/\Below W0.heap.size W0 (w4.drewN mq)/\Below W2.heap.size W2 (w4.drewN mq)):=⟨a_c O.out.1 (k_H _ _),a_c O.out.2.1 (k_H _ _),a_c O.out.2.2 (k_H _ _)⟩
 obtain ⟨w5,az⟩:∃ w5:World,w4.drewN mq=w5:=⟨_,rfl⟩
 rw [az] at H ⊢;clear cQ a0 a1 z0 L b1 z1 az;obtain ⟨a0,a1,_,_⟩:=XA.out.up (H.out.2.1);have z0:=a_a a0;obtain ⟨L,b1,_,_⟩:=XB.out.up (H.out.2.1);have z1:=a_a L;go_wp2_with (at_make;refine a_y k_w (by decide) _ rfl (.tmp 40) (.tmp 40) rfl .i64 .i64 E E E rfl rfl rfl rfl (by omega) w.heap.size w H.out.1.size H.out.1 ?_;intro w6 aq B6 aN;clear aN;have aM:=(XA.out.up (a_c H.out.2.1 B6));obtain ⟨a2,a3,_,_⟩:=aM)
 obtain ⟨g,hg⟩:∃ g,w5.heap.size=g:=⟨_,rfl⟩
 have ac:Hid (Below w.heap.size w w6/\Below W0.heap.size W0 w6/\Below W2.heap.size W2 w6):=⟨a_c H.out.1 B6,a_c H.out.2.1 B6,a_c H.out.2.2 B6⟩
 rw [hg] at aq ⊢;have hz:=a_a XR.out.1;have Hg:Hid (W0.heap.size<=g/\w.heap.size+2 < W0.heap.size/\bl < g):=⟨by rw [<- hg];exact H.out.2.1.size,hz,by rw [<- hg];exact Nat.lt_of_lt_of_le (a_a XL.out.1) H.out.2.2.size⟩
 have aH:Hid (OwnK .i64 23 w6 g (.slice (some ⟨g,0,none⟩) E E) (b_I V 0)):=by
  show OwnK _ _ _ _ _ _;rw [a_1,U.out.2.1];exact aq.out
 clear a0 a1 a2 a3 L b1 z0 z1 aq B6 hg hz
 go_loopg [45] E (fun gg i wr=>∃ (q:Nat),q<=E/\gg=E - q/\i = .int .i64 (q:Int)/\Hid (OwnK .i64 23 wr g (.slice (some ⟨g,0,none⟩) E E) (b_I V q))/\Hid (Below w.heap.size w wr/\Stay g w6 wr))
 case atStart=>exact ⟨0,by omega,by omega,by first|rfl|simp,aH,ac.out.1,Stay.refl _ _⟩
 case round=>
  obtain ⟨j,hj,hg,rfl,au,I⟩:=hrel;obtain ⟨R1,aL⟩:∃ R1:World,R1=wr:=⟨_,rfl⟩
  subst aL;by_cases M:j < E
  ·have aQ:(j:Int) < (E:Int):=by omega
   obtain ⟨q,o,rfl,aC⟩:=HX.out.2 j M;have ak:=a_d aC I.out.1;obtain ⟨q',o',rfl,aB⟩:=HY.out.2 j M;have am:=a_d aB I.out.1;have ry:=U.out.2.2.2.1.at j (by rw [U.out.2.2.2.2.2.1];exact M);obtain ⟨X,eX⟩:∃ X,x.getD j 0=X:=⟨_,rfl⟩
   obtain ⟨Y,eY⟩:∃ Y,y.getD j 0=Y:=⟨_,rfl⟩
   rw [eX] at ak;rw [eY] at am ry;obtain ⟨SL,eS⟩:∃ SL,Fx.slopeI k X=SL:=⟨_,rfl⟩
   obtain ⟨Z,eZ⟩:∃ Z,Fx.mulI Y SL=Z:=⟨_,rfl⟩
   have HZ:Hid (V.getD j 0=Z):=by
    show _=_;rw [<- U.out.1,a_I _ _ _ _ (by rw [U.out.2.2.2.2.1];exact M),eX,eY,eS,eZ]
   have rs:InR SL:=by rw [<- eS];exact m_p _ _
   have cs:∀ W,Calls Tryz.prog K2 #[.int .i64 X] W fun e w'=>e = .returned (.int .i64 SL)/\w'=W:=fun W=>by rw [<- eS];exact aK.out X W
   have cm:∀ W,Calls Tryz.prog 134 #[.int .i64 Y,.int .i64 SL] W fun e w'=>e = .returned (.int .i64 Z)/\w'=W:=fun W=>by rw [<- eZ];exact Fx.mul_any Y SL ry rs W
   have aw:bl≠g:=by have:=Hg.out;omega
   have J:w.heap.size+1≠g:=by have:=Hg.out;omega
   obtain ⟨l0,l1,_,_⟩:=(XL.out.up ac.out.2.2).stay I.out.2 aw;obtain ⟨L,b1,_,_⟩:=(XB.out.up ac.out.2.1).stay I.out.2 J;have aI:w.heap.size<=g:=by have:=Hg.out;have:=ao.out.size;omega
   have z0:=a_a l0;have z1:=a_a L;have z2:=a_a ak;have z3:=a_a am;have z4:=au.out.size;have Hk:Hid (j < V.length):=by show _ < _;rw [U.out.2.1];exact M
   clear eX eY eS eZ aC aB aw J ry rs;go_wp2_with fail
   refine j_r 13 69 (by kernel_rfl) rfl rfl (by kernel_rfl) ?_;apply Exists.intro;refine ⟨?_,?_⟩
   ·intro F hF;have hFc:=hF.cell;have hFf:=hF.frozen;simp only [List.take_succ_cons,List.take_zero,List.eraseIdx_cons_succ,List.eraseIdx_cons_zero]
    repeat (go_big_quiet_step (first|(go_at_call 134;with_reducible exact hF.same (cm _))|(rw [aF.out];exact ⟨rfl,hF.same (cs _)⟩)))
    refine wpQuiet_nil ?_;exact rfl
   ·intro R2 af;simp only [List.drop_succ_cons,List.drop_zero];have an:=au.out.up af;obtain ⟨aP,aR⟩:=an.cell (by rw [a_A];exact U.out.2.1) j M
    have H5:Hid (OwnK .i64 23 (R2.setCell ⟨g,j,none⟩ (.int .i64 Z)) g (.slice (some ⟨g,0,none⟩) E E) (b_I V (j+1))):=by
     have:=an.store (by rw [a_A];exact U.out.2.1) j Z;rw [<- HZ.out,b_r V j Hk.out] at this;rw [<- HZ.out];exact this
    have H6:Hid (Below w.heap.size w (R2.setCell ⟨g,j,none⟩ (.int .i64 Z))/\Stay g w6 (R2.setCell ⟨g,j,none⟩ (.int .i64 Z))):=⟨(a_c I.out.1 af).setCell (p:=⟨g,j,none⟩) aI _,(I.out.2.up af).set _ _⟩
    clear an af cs cm z0 z1 z2 z3 z4 l0 l1 L b1 ak am;go_wp2;go_roundg (E - (j+1))
    case measure=>omega
    case rel=>exact ⟨j+1,by omega,rfl,by first|rfl|simp,H5,H6⟩
  ·obtain rfl:j=E:=by omega
   have ah:w.heap.size+1≠g:=by have:=Hg.out;omega
   have J:w.heap.size+2≠g:=by have:=Hg.out;omega
   obtain ⟨L,b1,_,_⟩:=(XB.out.up ac.out.2.1).stay I.out.2 ah;have ax:=(XR.out.up ac.out.2.1).stay I.out.2 J;have ad:=au.out;rw [<- U.out.2.1,b_g,U.out.2.1] at ad;have ay:Hid (OwnK .i64 23 R1 g (.slice (some ⟨g,0,none⟩) j j) V):=ad;have cc:=b_i _ d' U.out.2.2.2.2.2.2 R1 (HN.out.up I.out.1);have aJ:Hid (Cel R1 (w.heap.size+2) (.slice none 0 0) (.slice none 0 0)):=ax;clear ad ax ah J;go_wp2_with fail
   refine cc.mono ?_;rintro e w7 ⟨v7,rfl,h7,ai⟩;obtain ⟨p7,n7,c7,rfl,_⟩:=h7.nums.lst
   have HF:Hid (TRes (set2 w7 (w.heap.size+2) (.slice p7 n7 c7) (.slice (some ⟨g,0,none⟩) j j)) w.heap.size (.agg #[.slice p7 n7 c7,.slice (some ⟨g,0,none⟩) j j]) d' V/\Below w.heap.size w (set2 w7 (w.heap.size+2) (.slice p7 n7 c7) (.slice (some ⟨g,0,none⟩) j j))):=by
    have hs:g<=R1.heap.size:=Nat.le_of_lt ay.out.size;exact ⟨(TRes.set (h7.low (Nat.le_trans Hg.out.1 hs)) ((ay.out.up ai).low Hg.out.1) Hg.out.2.1).low ao.out.size,a_k (a_c I.out.1 ai) _ (by omega) _ _⟩
   clear cc h7 L b1;have xr:=(aJ.out.up ai)
   have cf:=xr.set (.slice p7 n7 c7) (.slice (some ⟨g,0,none⟩) j j);obtain ⟨r0,r1,r2,r3⟩:=xr;obtain ⟨y0,y1,_,_⟩:=cf;go_wp2;exact bodyPost_ret (v:=.tuple #[.agg #[.slice p7 n7 c7,.slice (some ⟨g,0,none⟩) j j],.int .i64 0]) (by simp [results,Tryz.results110,go_sem,y0,y1]) rfl ⟨_,rfl,HF.out⟩
theorem o_w (k:Int) (p U J E:Option Addr) (n c O H R M V I:Nat) (d x d' y:List Int) (hd:RI d) (hx:RI x) (L:RI d') (hy:RI y) (D:q_w k d x d' y=0) (w:World) (h1:Nums .i64 w (.slice p n c) d) (h2:Nums .i64 w (.slice U O H) x) (h3:Nums .i64 w (.slice J R M) d') (h4:Nums .i64 w (.slice E V I) y):
  Calls Tryz.prog 110 #[.int .i64 k,.agg #[.slice p n c,.slice U O H],.agg #[.slice J R M,.slice E V I]] w fun e w'=>∃ v',e = .returned (.tuple #[v',.int .i64 (q_w k d x d' y)])/\TRes w' w.heap.size v' (o_v k d x d' y) (p_h k d x d' y)/\Below w.heap.size w w':=by
 by_cases h:(1<=k/\k<=5)/\isP d x/\isP d' y
 ·by_cases h':d=d'
  ·exact m_D k p U J E n c O H R M V I d x d' y hd hx L hy w h1 h2 h3 h4 ⟨h,h'⟩
  ·rw [(q_x h h').1] at D;cases D
 ·rw [(r_Y h).1] at D;cases D
/-- Numbers again and again along a side. -/
def q_z (d:List Nat) (s:Nat) (g:List Int):List Int:=(List.range (a_e d)).map fun j=>g.getD (j / (d.getD s 0*a_e (d.drop (s+1)))*a_e (d.drop (s+1))+j % a_e (d.drop (s+1))) 0
/-- Noughts, but at so many places these numbers. -/
def h_n (N:Nat) (p g:List Int):Nat->List Int
 | 0=>List.replicate N 0
 | k+1=>(h_n N p g k).set (p.getD k 0).toNat (g.getD k 0)
theorem g_0 (N:Nat) (p g:List Int):∀ k,(h_n N p g k).length=N
 | 0=>by simp [h_n]
 | k+1=>by rw [h_n,List.length_set,g_0 N p g k]
abbrev Ten:=List Int×List Int
def c_i (t:Ten) (d:List Int):Ten:=(h_3 t.1 t.2 d,h_4 t.1 t.2 d)
def i_h (s t:Ten):Ten:=(b_J s.1 s.2 t.1 t.2,b_U Fx.mulI s.1 s.2 t.1 t.2)
def q_A (s t:Ten):Ten:=(b_J s.1 s.2 t.1 t.2,b_U (fun a b=>Fx.hold (a+b)) s.1 s.2 t.1 t.2)
def d_g (t:Ten) (k:Int):Ten:=(f_s t.1 t.2,f_t t.1 t.2 k)
def e_B (t:Ten):Ten:=(flD t.1 t.2,flV t.1 t.2)
def mm2 (s t:Ten):Ten:=(mD s.1 s.2 t.1 t.2,mV s.1 s.2 t.1 t.2)
/-- For A. -/
def onA (op k:Int) (a b g:Ten):Ten:=
 if op=2∨op=3 then c_i g a.1 else if op=4 then c_i (i_h g b) a.1 else if op=5 then d_g g k else if op=6 then mm2 g (e_B b) else if op=7 then e_B g
 else if op=8 then (a.1,q_z (ntl a.1) k.toNat g.2) else if op=9 then (a.1,List.replicate (a_e (ntl a.1)) (g.2.getD 0 0)) else if op=10 then (a.1,List.replicate (a_e (ntl a.1)) (Fx.hold (rqI (g.2.getD 0 0) (a.2.length:Int))))
 else if op=11 then (o_v k a.1 a.2 g.1 g.2,p_h k a.1 a.2 g.1 g.2) else if op=12 then (biD g.1 g.2 b.1 b.2 k (a.1.getD 1 0),biV g.1 g.2 b.1 b.2 k (a.1.getD 1 0))
 else if op=13 then (a.1,h_n (a_e (ntl a.1)) (plP a.1 a.2 k) g.2 (plP a.1 a.2 k).length) else if op=14 then (j_B g.1 g.2 a.1,k_6 g.1 g.2 a.1) else ([],[])
/-- For B. -/
def onB (op k:Int) (a b g:Ten):Ten:=
 if op=2 then c_i g b.1 else if op=3 then c_i (d_g g (-4294967296)) b.1 else if op=4 then c_i (i_h g a) b.1 else if op=6 then mm2 (e_B a) g
 else if op=12 then (bkD g.1 g.2 a.1 a.2 k (b.1.getD 2 0),bkV g.1 g.2 a.1 a.2 k (b.1.getD 2 0)) else ([],[])
abbrev b_d (t:Ten):Prop:=c_r t.1 t.2
theorem p_i {t:Ten} {d:List Int} (J:b_d t) (hf:h_2 t.1 t.2 d):b_d (c_i t d)/\(c_i t d).1=d:=by
 obtain ⟨a,b,D⟩:=q_v hf;obtain ⟨_,H,E⟩:=D.V hf;have I:(c_i t d).1=d:=if_pos hf;refine ⟨?_,I⟩;show c_r (h_3 t.1 t.2 d) (h_4 t.1 t.2 d);rw [H,E];refine f_U (f_D D.gb ?_) (j_Z _);exact f_j _ _ _ _ _
/-- What two join to, each is spread to. -/
theorem g_n {d x d' y:List Int} {a b J:List Nat} (h:Joint d x d' y a b J) {g:List Int} (D:isP (itl J) g):h_2 (itl J) g d/\h_2 (itl J) g d':=by
 have O:goodN (joinN a J):=by rw [h.ja];exact h.gJ
 have L:goodN (joinN b J):=by rw [h.jb];exact h.gJ
 obtain ⟨E,M⟩:=b_u h.ga h.gJ h.fa O;obtain ⟨H,I⟩:=b_u h.gb h.gJ h.fb L;refine ⟨⟨⟨D,by rw [h.da,a_p];exact h.ga⟩,?_,?_⟩,⟨D,by rw [h.db,a_p];exact h.gb⟩,?_,?_⟩
 ·rw [h.da];exact M
 ·rw [h.da,E,h.ja]
 ·rw [h.db];exact I
 ·rw [h.db,H,h.jb]
/-- Times one of the two: the shape stays. -/
theorem o_x {t s:Ten} {J b:List Nat} (ht:b_d t) (hs:b_d s) (L:t.1=itl J) (E:s.1=itl b) (H:goodN J) (V:goodN b) (O:b_X b J) (U:joinN b J=J):b_d (i_h t s)/\(i_h t s).1=t.1:=by
 have R:b_X J b:=fun i h1 h2=>by
  have:=O i h1 (by omega);rcases this with h|h|h
  ·exact .inl h.symm
  ·exact .inr (.inr h)
  ·exact .inr (.inl h)
 have I:joinN J b=J:=by rw [b_0];exact U
 obtain ⟨p1,p2⟩:=b_u H V R (by rw [I];exact H);have hE:b_x t.1 s.1=0:=by rw [L,E];exact p2
 have M:isP t.1 t.2/\isP s.1 s.2:=⟨ht.1,hs.1⟩
 have D:b_C t.1 t.2 s.1 s.2=0:=(if_pos M).trans hE;have hD:b_J t.1 t.2 s.1 s.2=t.1:=(if_pos M).trans (by rw [L,E,p1,I]);exact ⟨h_Z (fun a b=>e_S a b) D,hD⟩
theorem s_5 {t s:Ten} (J:b_d t) (R:b_d s) (e:s.1=t.1):b_d (q_A t s)/\(q_A t s).1=t.1:=by
 obtain ⟨a,D,I⟩:=b_m J.1.1;obtain ⟨f,j⟩:=h_A a;obtain ⟨L,M⟩:=b_u D D f (by rw [j];exact D);have H:isP t.1 t.2/\isP s.1 s.2:=⟨J.1,R.1⟩
 have E:b_C t.1 t.2 s.1 s.2=0:=(if_pos H).trans (by rw [e,I];exact M);have O:b_J t.1 t.2 s.1 s.2=t.1:=(if_pos H).trans (by rw [e,I,L,j]);exact ⟨h_Z (fun a b=>hold_rng _) E,O⟩
theorem e_X {t:Ten} (D:b_d t) (k:Int):b_d (d_g t k)/\(d_g t k).1=t.1:=⟨m_s (if_pos D.1),if_pos D.1⟩
theorem m_E {n:Nat} {v:Int} (h:InR v):RI (List.replicate n v):=fun y D=>by rw [List.eq_of_mem_replicate D];exact h
theorem q_B {d:List Int} {v:Int} (D:goodN (ntl d)) (h:InR v):c_r d (List.replicate (a_e (ntl d)) v):=f_U ⟨D,by simp⟩ (m_E h)
theorem p_j {N:Nat} {p g:List Int} (E:RI g):∀ k,RI (h_n N p g k)
 | 0=>m_E (by unfold InR;omega)
 | k+1=>fun y D=>by
  rw [h_n] at D;rcases List.mem_or_eq_of_mem_set D with h|h
  ·exact p_j E k y h
  ·rw [h];exact d_d E k
theorem i_L {op k:Int} {a b g:Ten} (ho:op=2∨op=3∨op=4) (O:b_d a) (hb:b_d b) (hE:b_C a.1 a.2 b.1 b.2=0) (H:b_d g) (eg:g.1=b_J a.1 a.2 b.1 b.2):
  (b_d (onA op k a b g)/\(onA op k a b g).1=a.1)/\b_d (onB op k a b g)/\(onB op k a b g).1=b.1:=by
 have V:isP a.1 a.2/\isP b.1 b.2:=⟨O.1,hb.1⟩
 have hj:b_x a.1 b.1=0:=(if_pos V).symm.trans hE;obtain ⟨A,B,J,h⟩:=n_V V hj;have M:g.1=itl J:=eg.trans (h.E (op:=fun a b=>a)).2.1;have pg:∀ t:Ten,b_d t->t.1=g.1->isP (itl J) t.2:=fun t I L=>by rw [<- M,<- L];exact I.1
 have D:∀ t:Ten,b_d t->t.1=g.1->(b_d (c_i t a.1)/\(c_i t a.1).1=a.1)/\b_d (c_i t b.1)/\(c_i t b.1).1=b.1:=fun t I L=>by
  have hf:=g_n h (pg t I L);rw [<- M,<- L] at hf;exact ⟨p_i I hf.1,p_i I hf.2⟩
 rcases ho with rfl|rfl|rfl
 ·exact D g H rfl
 ·have hs:=e_X H (-4294967296);exact ⟨(D g H rfl).1,(D _ hs.1 hs.2).2⟩
 ·have U:=o_x H hb M h.db h.gJ h.gb h.fb h.jb;have R:=o_x H O M h.da h.gJ h.ga h.fa h.ja;exact ⟨(D _ U.1 U.2).1,(D _ R.1 R.2).2⟩
theorem g_1 {D E:Nat} {x:List Int} (h:c_r [(D:Int),(E:Int)] x):b_d (e_B ([(D:Int),(E:Int)],x))/\(e_B ([(D:Int),(E:Int)],x)).1 = [(E:Int),(D:Int)]:=by
 have H:flE [(D:Int),(E:Int)] x=0:=(if_pos h.1).trans (if_pos rfl);exact ⟨t_t h.2.2 H,if_pos ⟨h.1,rfl⟩⟩
theorem p_k {A C E:Nat} {x y:List Int} (J:c_r [(A:Int),(C:Int)] x) (D:c_r [(C:Int),(E:Int)] y) (H:goodN (ntl [(A:Int),(E:Int)])):b_d (mm2 ([(A:Int),(C:Int)],x) ([(C:Int),(E:Int)],y))/\(mm2 ([(A:Int),(C:Int)],x) ([(C:Int),(E:Int)],y)).1 = [(A:Int),(E:Int)]:=by
 have I:mP [(A:Int),(C:Int)] x [(C:Int),(E:Int)] y:=⟨⟨J.1,D.1⟩,rfl,rfl,rfl⟩
 have L:mE [(A:Int),(C:Int)] x [(C:Int),(E:Int)] y=0:=(if_pos ⟨J.1,D.1⟩).trans ((if_pos I).trans (if_pos H));exact ⟨m_g L,if_pos ⟨I,H⟩⟩
theorem r_Z {k:Int} {a b g:Ten} (L:b_d a) (hb:b_d b) (H:mE a.1 a.2 b.1 b.2=0) (hg:b_d g) (eg:g.1=mD a.1 a.2 b.1 b.2):
  (b_d (onA 6 k a b g)/\(onA 6 k a b g).1=a.1)/\b_d (onB 6 k a b g)/\(onB 6 k a b g).1=b.1:=by
 have D:mP a.1 a.2 b.1 b.2/\mG a.1 b.1:=by
  unfold mE at H;by_cases hp:isP a.1 a.2/\isP b.1 b.2
  ·rw [if_pos hp] at H;by_cases R:mP a.1 a.2 b.1 b.2
   ·rw [if_pos R] at H;by_cases V:mG a.1 b.1
    ·exact ⟨R,V⟩
    ·rw [if_neg V] at H;cases H
   ·rw [if_neg R] at H;cases H
  ·rw [if_neg hp] at H;cases H
 have J:=eg.trans (if_pos D);obtain ⟨aD,aX⟩:=a;obtain ⟨bD,bX⟩:=b;obtain ⟨gD,gX⟩:=g;obtain ⟨A,C,rfl,_⟩:=a_Y L.1 D.1.2.2.1;obtain ⟨C',E,rfl,_⟩:=a_Y hb.1 D.1.2.1;obtain rfl:C=C':=by have:=D.1.2.2.2;simp at this;omega
 have O:gD = [(A:Int),(E:Int)]:=J;subst O;have I:=g_1 hb;have M:=g_1 L;have e1:e_B ([(C:Int),(E:Int)],bX)=([(E:Int),(C:Int)],(e_B ([(C:Int),(E:Int)],bX)).2):=Prod.ext I.2 rfl;have U:e_B ([(A:Int),(C:Int)],aX)=([(C:Int),(A:Int)],(e_B ([(A:Int),(C:Int)],aX)).2):=Prod.ext M.2 rfl;rw [e1] at I;rw [U] at M;refine ⟨?_,?_⟩
 ·show b_d (mm2 _ (e_B _))/\(mm2 _ (e_B _)).1=_;rw [e1];exact p_k hg I.1 L.1.1
 ·show b_d (mm2 (e_B _) _)/\(mm2 (e_B _) _).1=_;rw [U];exact p_k M.1 hg hb.1.1
theorem r_0 {k:Int} {a b g:Ten} (I:b_d a) (hb:b_d b) (D:rwE a.1 a.2 b.1 b.2 k=0) (hg:b_d g) (eg:g.1=rwD a.1 a.2 b.1 b.2 k):
  (b_d (onA 12 k a b g)/\(onA 12 k a b g).1=a.1)/\b_d (onB 12 k a b g)/\(onB 12 k a b g).1=b.1:=by
 have M:rwA a.1 a.2 b.1 b.2 k/\rwS a.1 b.1/\goodN (ntl (rwO a.1 b.1 k)):=by
  unfold rwE at D;by_cases U:rwA a.1 a.2 b.1 b.2 k
  ·rw [if_pos U] at D;by_cases hm:rwS a.1 b.1
   ·rw [if_pos hm] at D;unfold f_1 at D;by_cases hq:goodN (ntl (rwO a.1 b.1 k))
    ·exact ⟨U,hm,hq⟩
    ·rw [if_neg hq] at D;cases D
   ·rw [if_neg hm] at D;cases D
  ·rw [if_neg U] at D;cases D
 obtain ⟨J,H,hG⟩:=M;have aa:g.1=rwO a.1 b.1 k:=eg.trans ((if_pos ⟨J,H⟩).trans (if_pos hG));obtain ⟨st,rfl⟩:∃ q:Nat,k=q:=⟨k.toNat,by have:=J.2.2;omega⟩
 obtain ⟨aD,aX⟩:=a;obtain ⟨bD,bX⟩:=b;obtain ⟨gD,gX⟩:=g;obtain ⟨R,L,rfl,ab,k0,k1,k2⟩:=a_Y I.1 H.1;obtain ⟨O,R',wd,rfl,ac,l0,l1,l2,l3⟩:=c_d hb.1 H.2.1;obtain rfl:R=R':=by have:=H.2.2.1;simp at this;omega
 have hw:wd<=L:=by have:=H.2.2.2;simp at this;omega
 obtain ⟨S,E⟩:∃ S,a_M L wd st=S:=⟨_,rfl⟩
 have V:gD = [(O:Int),(S:Int)]:=aa.trans (by rw [<- E];rfl);subst V;have z:=c_L k2 k0 k1;have zw:wd<=4096:=by omega
 have b1:biA [(O:Int),(S:Int)] gX [(O:Int),(R:Int),(wd:Int)] bX st L:=⟨hg.1,hb.1,J.2.2,by omega,by omega⟩
 have b2:biA [(O:Int),(S:Int)] gX [(R:Int),(L:Int)] aX st wd:=⟨hg.1,I.1,J.2.2,by omega,by omega⟩
 obtain ⟨_,e2,e3⟩:=i_D b1 hw E;obtain ⟨_,f2,f3⟩:=i_E b2 hw E;refine ⟨?_,?_⟩
 ·show c_r (biD _ _ _ _ _ _) (biV _ _ _ _ _ _)/\biD _ _ _ _ _ _=_;rw [show ((([(R:Int),(L:Int)],aX):Ten).1.getD 1 0)=(L:Int) from rfl,e2,e3];unfold d_V;rw [if_pos I.1.1,if_pos I.1.1];refine ⟨f_U ⟨I.1.1,?_⟩ ?_,rfl⟩
  ·rw [l_9];exact (c_k R L).symm
  ·unfold h_W;exact c_z fun i _=>by unfold k_F rnd;exact hold_rng _
 ·show c_r (bkD _ _ _ _ _ _) (bkV _ _ _ _ _ _)/\bkD _ _ _ _ _ _=_;rw [show ((([(O:Int),(R:Int),(wd:Int)],bX):Ten).1.getD 2 0)=(wd:Int) from rfl,f2,f3];unfold d_V;rw [if_pos hb.1.1,if_pos hb.1.1];refine ⟨f_U ⟨hb.1.1,?_⟩ ?_,rfl⟩
  ·rw [o_j];exact (e_t O R wd).symm
  ·unfold p_c;exact c_z fun i _=>by unfold r_E rnd;exact hold_rng _
/-- An Op of one node. -/
theorem r_1 {op k:Int} {a g:Ten} (ho:op=5∨op=7∨op=8∨op=9∨op=10∨op=11∨op=13∨op=14) (E:b_d a) (O:rkE op a.1 a.2 [] [] k=0) (H:b_d g) (L:g.1=rkD op a.1 a.2 [] [] k):
  b_d (onA op k a ([],[]) g)/\(onA op k a ([],[]) g).1=a.1:=by
 rcases ho with rfl|rfl|rfl|rfl|rfl|rfl|rfl|rfl
 ·have e:g.1=a.1:=L.trans (if_pos E.1);have h:=e_X H k;exact ⟨h.1,h.2.trans e⟩
 ·have D:flE a.1 a.2=0:=O
  have J:a.1.length=2:=by
   unfold flE at D;rw [if_pos E.1] at D;by_cases h:a.1.length=2
   ·exact h
   ·rw [if_neg h] at D;cases D
  obtain ⟨aD,aX⟩:=a;obtain ⟨gD,gX⟩:=g;obtain ⟨M,U,rfl,_⟩:=a_Y E.1 J;have e0:flD [(M:Int),(U:Int)] aX = [(U:Int),(M:Int)]:=if_pos ⟨E.1,rfl⟩;have e:gD = [(U:Int),(M:Int)]:=L.trans e0;subst e;exact g_1 H
 ·show c_r a.1 (q_z (ntl a.1) k.toNat g.2)/\a.1=a.1;refine ⟨f_U ⟨E.1.1,by unfold q_z;simp⟩ ?_,rfl⟩;unfold q_z;exact c_z fun j _=>d_d H.2.2 _
 ·exact ⟨q_B E.1.1 (d_d H.2.2 _),rfl⟩
 ·exact ⟨q_B E.1.1 (hold_rng _),rfl⟩
 ·have D:g_Z k a.1 a.2=0:=O
  have V:(1<=k/\k<=5)/\isP a.1 a.2:=by
   unfold g_Z at D;by_cases h:(1<=k/\k<=5)/\isP a.1 a.2
   ·exact h
   ·rw [if_neg h] at D;cases D
  have e:g.1=a.1:=L.trans (if_pos V);have I:((1<=k/\k<=5)/\isP a.1 a.2/\isP g.1 g.2)/\a.1=g.1:=⟨⟨V.1,E.1,H.1⟩,e.symm⟩
  show c_r (o_v k a.1 a.2 g.1 g.2) (p_h k a.1 a.2 g.1 g.2)/\o_v k a.1 a.2 g.1 g.2=a.1;unfold o_v p_h;rw [if_pos I,if_pos I];refine ⟨f_U ⟨H.1.1,?_⟩ (c_z fun i _=>e_S _ _),e⟩;rw [List.length_map,List.length_range,e];exact E.1.2
 ·refine ⟨f_U ⟨E.1.1,g_0 _ _ _ _⟩ (p_j H.2.2 _),rfl⟩
 ·have D:j_A a.1 a.2 [(a.2.length:Int)]=0:=O
  have I:(isP a.1 a.2/\goodN (ntl [(a.2.length:Int)]))/\a_e (ntl [(a.2.length:Int)])=a.2.length:=by
   unfold j_A at D;by_cases h:isP a.1 a.2/\goodN (ntl [(a.2.length:Int)])
   ·rw [if_pos h] at D;by_cases J:a_e (ntl [(a.2.length:Int)])=a.2.length
    ·exact ⟨h,J⟩
    ·rw [if_neg J] at D;cases D
   ·rw [if_neg h] at D;cases D
  have e:g.1 = [(a.2.length:Int)]:=L.trans (if_pos I);have hl:g.2.length=a.2.length:=by rw [H.1.2,e];exact I.2
  have R:(isP g.1 g.2/\goodN (ntl a.1))/\a_e (ntl a.1)=g.2.length:=⟨⟨H.1,E.1.1⟩,by rw [hl];exact E.1.2.symm⟩
  show c_r (j_B g.1 g.2 a.1) (k_6 g.1 g.2 a.1)/\j_B g.1 g.2 a.1=a.1;unfold j_B k_6;rw [if_pos R,if_pos R];exact ⟨f_U ⟨E.1.1,R.2.symm⟩ H.2.2,rfl⟩
/-- A node that was reckoned of those ahead of it. -/
def NdV (ns:List Nd) (i:Nat) (nd:Nd):Prop:=
 (nd.op=1/\nd.a = -1/\nd.b = -1)∨((2<=nd.op/\nd.op<=14)/\(0<=nd.a/\nd.a < (i:Int))/\(d_A nd.op->0<=nd.b/\nd.b < (i:Int))/\(¬ d_A nd.op->nd.b = -1)
  /\ rkE nd.op (ndN ns nd.a).D (ndN ns nd.a).X (dD ns nd.op nd.b) (dX ns nd.op nd.b) nd.k=0/\nd.D=rkD nd.op (ndN ns nd.a).D (ndN ns nd.a).X (dD ns nd.op nd.b) (dX ns nd.op nd.b) nd.k)
def NodesV (ns:List Nd):Prop:=∀ i nd,ns[i]?=some nd->NdV ns i nd
theorem j_0 {ns:List Nd} {x:Nd} {i:Int} (D:0<=i) (E:i < (ns.length:Int)):ndN (ns++[x]) i=ndN ns i:=by
 unfold ndN;rw [List.getD_eq_getElem?_getD,List.getD_eq_getElem?_getD,List.getElem?_append_left (by omega)]
theorem NdV.push {ns:List Nd} {i:Nat} {nd x:Nd} (h:NdV ns i nd) (R:i<=ns.length):NdV (ns++[x]) i nd:=by
 rcases h with h|⟨O,H,E,J,L⟩
 ·exact .inl h
 ·have M:ndN (ns++[x]) nd.a=ndN ns nd.a:=j_0 H.1 (by omega)
  have I:dD (ns++[x]) nd.op nd.b=dD ns nd.op nd.b/\dX (ns++[x]) nd.op nd.b=dX ns nd.op nd.b:=by
   unfold dD dX;by_cases D:d_A nd.op
   ·have:=E D;rw [if_pos D,if_pos D,if_pos D,if_pos D,j_0 this.1 (by omega)];exact ⟨rfl,rfl⟩
   ·rw [if_neg D,if_neg D,if_neg D,if_neg D];exact ⟨rfl,rfl⟩
  refine .inr ⟨O,H,E,J,?_⟩;rw [M,I.1,I.2];exact L
theorem NodesV.nil:NodesV []:=fun i nd h=>by simp at h
theorem NodesV.push {ns:List Nd} {x:Nd} (h:NodesV ns) (I:NdV ns ns.length x):NodesV (ns++[x]):=fun i nd D=>by
 by_cases H:i < ns.length
 ·rw [List.getElem?_append_left H] at D;exact (h i nd D).push (by omega)
 ·rw [List.getElem?_append_right (by omega)] at D
  have E:i - ns.length=0:=by
   rcases Nat.eq_zero_or_pos (i - ns.length) with e|e
   ·exact e
   ·rw [List.getElem?_eq_none (by simp;omega)] at D;cases D
  rw [E] at D;cases D;obtain rfl:i=ns.length:=by omega
  exact I.push (Nat.le_refl _)
theorem NodesV.leaf {ns:List Nd} {d x:List Int} (h:NodesV ns):NodesV (c_Q ns d x):=by
 unfold c_Q
 split
 ·exact h.push (.inl ⟨rfl,rfl,rfl⟩)
 ·exact h
theorem NodesV.do {ns:List Nd} {op a b k:Int} (h:NodesV ns):NodesV (doN ns op a b k):=by
 unfold doN
 split
 ·rename_i H
  have E:=H.1.2
  have I:dD ns op (dB op b)=dD ns op b/\dX ns op (dB op b)=dX ns op b:=by
   unfold dD dX dB;by_cases D:d_A op
   ·simp only [if_pos D];exact ⟨trivial,trivial⟩
   ·simp only [if_neg D];exact ⟨trivial,trivial⟩
  refine h.push (.inr ⟨E.1,E.2.1,fun D=>?_,fun D=>if_neg D,?_⟩)
  ·have e:(dN ns op a b k).b=b:=if_pos D;rw [e];exact E.2.2 D
  ·show rkE op _ _ (dD ns op (dB op b)) (dX ns op (dB op b)) _=0/\rkD op _ _ _ _ _=rkD op _ _ (dD ns op (dB op b)) (dX ns op (dB op b)) _;rw [I.1,I.2];exact ⟨H.2,rfl⟩
 ·exact h
/-- The two that a node is of. -/
def aOf (ns:List Nd) (nd:Nd):Ten:=((ndN ns nd.a).D,(ndN ns nd.a).X)
def bOf (ns:List Nd) (nd:Nd):Ten:=(dD ns nd.op nd.b,dX ns nd.op nd.b)
/-- What a gradient of a node gives is of their shapes. -/
theorem t_u {ns:List Nd} (O:NodesG ns) (hV:NodesV ns) {i:Nat} {nd:Nd} (R:ns[i]?=some nd) (h1:nd.op≠1) {g:Ten} (M:b_d g) (eg:g.1=nd.D):
  (b_d (onA nd.op nd.k (aOf ns nd) (bOf ns nd) g)/\(onA nd.op nd.k (aOf ns nd) (bOf ns nd) g).1=(aOf ns nd).1)/\(d_A nd.op->b_d (onB nd.op nd.k (aOf ns nd) (bOf ns nd) g)/\(onB nd.op nd.k (aOf ns nd) (bOf ns nd) g).1=(bOf ns nd).1):=by
 have hl:i < ns.length:=(List.getElem?_eq_some_iff.1 R).1;rcases hV i nd R with h|⟨ho,V,hb,aa,H,hD⟩
 ·exact absurd h.1 h1
 have L:b_d (aOf ns nd):=O.at V.1 (by omega)
 have U:d_A nd.op->b_d (bOf ns nd):=fun J=>by
  have:=hb J;show c_r (dD ns nd.op nd.b) (dX ns nd.op nd.b);unfold dD dX;rw [if_pos J,if_pos J];exact O.at this.1 (by omega)
 have E:=eg.trans hD;by_cases J:d_A nd.op
 ·have I:=U J;rcases J with e|e|e|e|e
  ·rw [e] at H E ⊢;have:=i_L (op:=2) (k:=nd.k) (.inl rfl) L I (by rw [show bOf ns nd=(dD ns 2 nd.b,dX ns 2 nd.b) by unfold bOf;rw [e]];exact H) M (by rw [show bOf ns nd=(dD ns 2 nd.b,dX ns 2 nd.b) by unfold bOf;rw [e]];exact E);exact ⟨this.1,fun _=>this.2⟩
  ·rw [e] at H E ⊢;have:=i_L (op:=3) (k:=nd.k) (.inr (.inl rfl)) L I (by rw [show bOf ns nd=(dD ns 3 nd.b,dX ns 3 nd.b) by unfold bOf;rw [e]];exact H) M (by rw [show bOf ns nd=(dD ns 3 nd.b,dX ns 3 nd.b) by unfold bOf;rw [e]];exact E);exact ⟨this.1,fun _=>this.2⟩
  ·rw [e] at H E ⊢;have:=i_L (op:=4) (k:=nd.k) (.inr (.inr rfl)) L I (by rw [show bOf ns nd=(dD ns 4 nd.b,dX ns 4 nd.b) by unfold bOf;rw [e]];exact H) M (by rw [show bOf ns nd=(dD ns 4 nd.b,dX ns 4 nd.b) by unfold bOf;rw [e]];exact E);exact ⟨this.1,fun _=>this.2⟩
  ·rw [e] at H E ⊢;have:=r_Z (k:=nd.k) L I (by rw [show bOf ns nd=(dD ns 6 nd.b,dX ns 6 nd.b) by unfold bOf;rw [e]];exact H) M (by rw [show bOf ns nd=(dD ns 6 nd.b,dX ns 6 nd.b) by unfold bOf;rw [e]];exact E);exact ⟨this.1,fun _=>this.2⟩
  ·rw [e] at H E ⊢;have:=r_0 (k:=nd.k) L I (by rw [show bOf ns nd=(dD ns 12 nd.b,dX ns 12 nd.b) by unfold bOf;rw [e]];exact H) M (by rw [show bOf ns nd=(dD ns 12 nd.b,dX ns 12 nd.b) by unfold bOf;rw [e]];exact E);exact ⟨this.1,fun _=>this.2⟩
 ·have eb:bOf ns nd=([],[]):=Prod.ext (if_neg J) (if_neg J);have e1:dD ns nd.op nd.b = []:=if_neg J;have e2:dX ns nd.op nd.b = []:=if_neg J;rw [e1,e2] at H E;rw [eb];exact ⟨r_1 (by omega) L H M E,fun h=>absurd h J⟩
def noT:Ten:=([],[])
/-- The gradients so far, and which were given anything. -/
abbrev SwT:=List Ten×List Bool
def sw0 (ns:List Nd) (root:Nat):SwT:=(((List.range (root+1)).map fun (i:Nat)=>((ndN ns (i:Int)).D,List.replicate (ndN ns (i:Int)).X.length (0:Int))).set root ((ndN ns (root:Int)).D,[4294967296]),(List.replicate (root+1) false).set root true)
def c_B (s:SwT) (j:Nat) (p:Ten):SwT:=(s.1.set j (q_A (s.1.getD j noT) p),s.2.set j true)
def c_m (ns:List Nd) (i:Nat) (s:SwT):SwT:=
 if s.2.getD i false=true/\(ndN ns (i:Int)).op≠1 then
  if 0<=(ndN ns (i:Int)).b then c_B (c_B s (ndN ns (i:Int)).a.toNat (onA (ndN ns (i:Int)).op (ndN ns (i:Int)).k (aOf ns (ndN ns (i:Int))) (bOf ns (ndN ns (i:Int))) (s.1.getD i noT))) (ndN ns (i:Int)).b.toNat (onB (ndN ns (i:Int)).op (ndN ns (i:Int)).k (aOf ns (ndN ns (i:Int))) (bOf ns (ndN ns (i:Int))) (s.1.getD i noT))
  else c_B s (ndN ns (i:Int)).a.toNat (onA (ndN ns (i:Int)).op (ndN ns (i:Int)).k (aOf ns (ndN ns (i:Int))) (bOf ns (ndN ns (i:Int))) (s.1.getD i noT))
 else s
def swK (ns:List Nd) (root:Nat):Nat->SwT
 | 0=>sw0 ns root
 | k+1=>c_m ns (root - k) (swK ns root k)
def swE (ns:List Nd) (root:Int):Int:=if 0<=root/\root < (ns.length:Int) then if (ndN ns root).X.length=1 then 0 else 4 else 1
def swL (ns:List Nd) (root:Int):List Ten:=if swE ns root=0 then (swK ns root.toNat (root.toNat+1)).1 else []
/-- Gradients of the nodes' shapes. -/
structure SwG (ns:List Nd) (root:Nat) (s:SwT):Prop where
 l:s.1.length=root+1
 v:s.2.length=root+1
 g:∀ i:Nat,i<=root->b_d (s.1.getD i noT)/\(s.1.getD i noT).1=(ndN ns (i:Int)).D
theorem j_1 {α:Type} (l:List α) (i j:Nat) (x y:α) (D:i < l.length):(l.set i x).getD j y=if i=j then x else l.getD j y:=by
 rw [List.getD_eq_getElem?_getD,List.getD_eq_getElem?_getD,List.getElem?_set];by_cases h:i=j
 ·subst h;simp [D]
 ·simp [h]
theorem SwG.give {ns:List Nd} {root:Nat} {s:SwT} (h:SwG ns root s) {j:Nat} {p:Ten} (J:j<=root) (L:b_d p) (M:p.1=(ndN ns (j:Int)).D):SwG ns root (c_B s j p):=by
 refine ⟨by simp [c_B,h.l],by simp [c_B,h.v],fun i O=>?_⟩;have H:j < s.1.length:=by rw [h.l];omega
 show b_d ((s.1.set j (q_A (s.1.getD j noT) p)).getD i noT)/\((s.1.set j (q_A (s.1.getD j noT) p)).getD i noT).1=_;rw [j_1 _ _ _ _ _ H];by_cases e:j=i
 ·subst e;rw [if_pos rfl];have E:=h.g j J;have I:=s_5 E.1 L (M.trans E.2.symm);exact ⟨I.1,I.2.trans E.2⟩
 ·rw [if_neg e];exact h.g i O
theorem c_S {ns:List Nd} {i:Nat} (h:i < ns.length):ns[i]?=some (ndN ns (i:Int)):=by
 have:=List.getElem?_eq_getElem h;rw [this,k_K this]
theorem s_6 {ns:List Nd} (J:NodesG ns) {root:Nat} (M:root < ns.length) (L:(ndN ns (root:Int)).X.length=1):SwG ns root (sw0 ns root):=by
 refine ⟨by simp [sw0],by simp [sw0],fun i O=>?_⟩;have H:i < ns.length:=by omega
 have E:c_r (ndN ns (i:Int)).D (ndN ns (i:Int)).X:=J _ (f_K (c_S H));show b_d ((List.set _ root _).getD i noT)/\((List.set _ root _).getD i noT).1=_;rw [j_1 _ _ _ _ _ (by simp)];by_cases e:root=i
 ·subst e;rw [if_pos rfl];refine ⟨f_U ⟨E.1.1,?_⟩ ?_,rfl⟩
  ·rw [<- E.1.2,L];rfl
  ·intro y I;simp at I;subst I;omega
 ·rw [if_neg e,List.getD_eq_getElem?_getD,List.getElem?_map,List.getElem?_range (by omega)];show c_r (ndN ns (i:Int)).D (List.replicate (ndN ns (i:Int)).X.length 0)/\(ndN ns (i:Int)).D=_;refine ⟨f_U ⟨E.1.1,?_⟩ (m_E (by unfold InR;omega)),rfl⟩;rw [List.length_replicate];exact E.1.2
theorem SwG.step {ns:List Nd} (hG:NodesG ns) (R:NodesV ns) {root i:Nat} {s:SwT} (h:SwG ns root s) (hr:root < ns.length) (hi:i<=root):SwG ns root (c_m ns i s):=by
 unfold c_m;have E:i < ns.length:=by omega
 split
 ·rename_i M
  have O:=h.g i hi;obtain ⟨J,o2⟩:=t_u hG R (c_S E) M.2 O.1 O.2;rcases R i _ (c_S E) with U|⟨ho,V,hb,I,_⟩
  ·exact absurd U.1 M.2
  have L:=h.give (j:=(ndN ns (i:Int)).a.toNat) (by omega) J.1 (J.2.trans (by rw [Int.toNat_of_nonneg V.1];rfl))
  split
  ·rename_i aa
   have D:d_A (ndN ns (i:Int)).op:=by
    by_cases D:d_A (ndN ns (i:Int)).op
    ·exact D
    ·have:=I D;omega
   have q:=o2 D;have H:=hb D;refine L.give (by omega) q.1 (q.2.trans ?_);show dD ns _ _=_;unfold dD;rw [if_pos D,Int.toNat_of_nonneg H.1]
  ·exact L
 ·exact h
theorem q_C {ns:List Nd} (E:NodesG ns) (H:NodesV ns) {root:Nat} (D:root < ns.length) (I:(ndN ns (root:Int)).X.length=1):∀ k,SwG ns root (swK ns root k)
 | 0=>s_6 E D I
 | k+1=>(q_C E H D I k).step E H D (by omega)
end Go.Proofs.YtjlofobnmjompaaGreatDoor.Wd
