/- act.Back: what it hands back. · What a g -/
import Derived.Test.YtcpbhhlepdgdkaaGreatDoorT13
set_option linter.unusedVariables false
set_option linter.unusedSimpArgs false
set_option maxHeartbeats 16000000
set_option maxRecDepth 16000
namespace Go.Proofs.YtcpbhhlepdgdkaaGreatDoor.Wd
open Go.RowKit Fx
def q_L (k:Int) (d x d' y:List Int):Int:=if (1<=k/\k<=5)/\isP d x/\isP d' y then if d=d' then 0 else 4 else 1
def o_D (k:Int) (d x d' y:List Int):List Int:=if ((1<=k/\k<=5)/\isP d x/\isP d' y)/\d=d' then d' else []
def p_t (k:Int) (d x d' y:List Int):List Int:=if ((1<=k/\k<=5)/\isP d x/\isP d' y)/\d=d' then (List.range x.length).map fun i=>Fx.mulI (y.getD i 0) (Fx.slopeI k (x.getD i 0)) else []
theorem s_d {k:Int} {d x d' y:List Int} (h:¬ ((1<=k/\k<=5)/\isP d x/\isP d' y)):q_L k d x d' y=1/\o_D k d x d' y = []/\p_t k d x d' y = []:=⟨if_neg h,if_neg fun D=>h D.1,if_neg fun D=>h D.1⟩
theorem q_M {k:Int} {d x d' y:List Int} (h:(1<=k/\k<=5)/\isP d x/\isP d' y) (E:¬ d=d'):q_L k d x d' y=4/\o_D k d x d' y = []/\p_t k d x d' y = []:=⟨(if_pos h).trans (if_neg E),if_neg fun D=>E D.2,if_neg fun D=>E D.2⟩
theorem q_N {k:Int} {d x d' y:List Int} (h:(1<=k/\k<=5)/\isP d x/\isP d' y) (D:d=d'):q_L k d x d' y=0/\o_D k d x d' y=d'/\p_t k d x d' y=(List.range x.length).map fun i=>Fx.mulI (y.getD i 0) (Fx.slopeI k (x.getD i 0)):=⟨(if_pos h).trans (if_pos D),if_pos ⟨h,D⟩,if_pos ⟨h,D⟩⟩
theorem m_J (k:Int) (p p2 p3 p4:Option Addr) (n c n2 c2 n3 c3 E c4:Nat) (d x d' y:List Int) (hd:RI d) (hx:RI x) (az:RI d') (hy:RI y) (w:World) (h1:Nums .i64 w (.slice p n c) d) (h2:Nums .i64 w (.slice p2 n2 c2) x) (h3:Nums .i64 w (.slice p3 n3 c3) d') (h4:Nums .i64 w (.slice p4 E c4) y) (D:((1<=k/\k<=5)/\isP d x/\isP d' y)/\d=d'):
  Calls Tryz.prog 99 #[.int .i64 k,.agg #[.slice p n c,.slice p2 n2 c2],.agg #[.slice p3 n3 c3,.slice p4 E c4]] w fun e w'=>∃ v',e = .returned (.tuple #[v',.int .i64 (q_L k d x d' y)])/\TRes w' w.heap.size v' (o_D k d x d' y) (p_t k d x d' y)/\Below w.heap.size w w':=by
 have cA:=fun W (hW:Below w.heap.size w W)=>a_B _ _ d x hd W (h1.up hW) (h2.up hW);have cB:=fun W (hW:Below w.heap.size w W)=>a_B _ _ d' y az W (h3.up hW) (h4.up hW);have hk:=D.1.1;obtain ⟨K1,K2,e1,e2,f1,f2,cl⟩:=j_2 k hk;rw [decide_eq_true D.1.2.1] at cA;rw [decide_eq_true D.1.2.2] at cB;have hP:isP d x/\isP d' y:=D.1.2;have cQ:=fun W (hW:Below w.heap.size w W)=>f_g _ _ d d' (by have:=hP.1.1.1;rw [a_Q] at this;omega) W (h1.up hW) (h3.up hW);rw [decide_eq_true D.2] at cQ;obtain ⟨q1,q2,q3⟩:=q_N D.1 D.2;rw [q1,q2,q3];obtain ⟨V,eV⟩:∃ V,((List.range x.length).map fun i=>Fx.mulI (y.getD i 0) (Fx.slopeI k (x.getD i 0)))=V:=⟨_,rfl⟩
 rw [eV];have HN:Hid (Nums .i64 w (.slice p3 n3 c3) d'):=h3;obtain ⟨_,_,_,e4,HX⟩:=h2.lst;cases e4;obtain ⟨_,_,_,e4,HY⟩:=h4.lst;cases e4;have aq:x.length=y.length:=by rw [D.1.2.1.2,D.1.2.2.2,D.2]
 have aD:x.length<=4096:=by rw [D.1.2.1.2];exact D.1.2.1.1.2.2
 have aE:d'.length<=1073741824:=by have:=D.1.2.2.1.1;rw [a_Q] at this;omega
 rw [aq,HY.out.1] at aD;obtain rfl:E=n2:=by rw [<- HX.out.1,<- HY.out.1,aq]
 have aH:(E:Int)<=4096:=by omega
 have HV:Hid (((List.range x.length).map fun i=>Fx.mulI (y.getD i 0) (Fx.slopeI k (x.getD i 0)))=V/\V.length=E/\RI x/\RI y/\x.length=E/\y.length=E/\d'.length<=1073741824):=⟨eV,by rw [<- eV,List.length_map,List.length_range];exact HX.out.1,hx,hy,HX.out.1,HY.out.1,aE⟩
 have aM:Hid (∀ x W,Calls Tryz.prog K2 #[.int .i64 x] W fun e w'=>e = .returned (.int .i64 (slopeI k x))/\w'=W):=f2;have av:Hid (∀ args W,(callFunc K2 args).run Tryz.prog W = .ok (.enter K2 args) W):=e2;haveI:Nonempty World:=⟨w⟩
 clear q1 q2 q3 eV h1 h2 h3 h4 hd hx az hy hk D hP f1 f2 e1 e2 aq aE;go_enter Tryz.func99,Tryz.ntmps99;go_wp2_with fail
 generalize R:World.alloc _ _=W0;have ap:=b_1 (w:=w) R (by go_grown);have XA:Hid (Cel W0 w.heap.size (.slice p n c) (.slice p2 E c2)):=a_F R (by simp [go_sem]);have XB:Hid (Cel W0 (w.heap.size+1) (.slice p3 n3 c3) (.slice p4 E c4)):=a_F R (by simp [go_sem]);have XR:Hid (Cel W0 (w.heap.size+2) (.slice none 0 0) (.slice none 0 0)):=a_F R (by simp [go_sem]);clear R;refine (cl W0).mono ?_;rintro e w1 ⟨rfl,ak⟩;have U:=a_N (a_c ap.out ak) ak;clear ak cl;obtain ⟨a0,a1,_,_⟩:=XA.out.up (U.out.2);have z0:=a_a a0;obtain ⟨L,b1,_,_⟩:=XB.out.up (U.out.2);have z1:=a_a L;go_wp2_with fail
 generalize an:World.alloc _ _=W2;have B2:Below w1.heap.size w1 W2:=by rw [<- an];exact a_b w1 _
 have XL:Hid (Cel W2 w1.heap.size (.func (.func K1) #[] #[]) (.func (.func K2) #[] #[])):=by show Cel _ _ _ _;unfold Cel;rw [<- an];simp [go_sem]
 have aj:=a_N (a_c U.out.1 B2) (a_c U.out.2 B2);have HL:Hid (W0.heap.size<=w1.heap.size):=U.out.2.size;obtain ⟨bl,aJ⟩:∃ bl,w1.heap.size=bl:=⟨_,rfl⟩
 rw [aJ] at XL HL ⊢;clear an B2;refine (cA W2 aj.out.1).mono ?_;rintro e w3 ⟨rfl,af⟩;have aa:Hid (Below w.heap.size w w3/\Below W0.heap.size W0 w3/\Below W2.heap.size W2 w3):=⟨a_c aj.out.1 af,a_c aj.out.2 af,af⟩
 clear af cA a0 a1 z0 L b1 z1;obtain ⟨L,b1,_,_⟩:=XB.out.up (aa.out.2.1);have z1:=a_a L;go_wp2_with fail
 refine (cB w3 aa.out.1).mono ?_;rintro e w4 ⟨rfl,ae⟩;have O:Hid (Below w.heap.size w w4/\Below W0.heap.size W0 w4/\Below W2.heap.size W2 w4):=⟨a_c aa.out.1 ae,a_c aa.out.2.1 ae,a_c aa.out.2.2 ae⟩
 clear ae cB L b1 z1;obtain ⟨a0,a1,_,_⟩:=XA.out.up (O.out.2.1);have z0:=a_a a0;obtain ⟨L,b1,_,_⟩:=XB.out.up (O.out.2.1);have z1:=a_a L;go_wp2_with fail
 refine (cQ w4 O.out.1).mono ?_;rintro e w5 ⟨rfl,mq,rfl⟩;have H:Hid (Below w.heap.size w (w4.drewN mq)/\Below W0.heap.size W0 (w4.drewN mq)/\Below W2.heap.size W2 (w4.drewN mq)):=⟨a_c O.out.1 (k_N _ _),a_c O.out.2.1 (k_N _ _),a_c O.out.2.2 (k_N _ _)⟩
 obtain ⟨w5,aB⟩:∃ w5:World,w4.drewN mq=w5:=⟨_,rfl⟩
 rw [aB] at H ⊢;clear cQ a0 a1 z0 L b1 z1 aB;obtain ⟨a0,a1,_,_⟩:=XA.out.up (H.out.2.1);have z0:=a_a a0;obtain ⟨L,b1,_,_⟩:=XB.out.up (H.out.2.1);have z1:=a_a L;go_wp2_with (at_make;refine a_y k_C (by decide) _ rfl (.tmp 40) (.tmp 40) rfl .i64 .i64 E E E rfl rfl rfl rfl (by omega) w.heap.size w H.out.1.size H.out.1 ?_;intro w6 ai B6 aI;clear aI;have aK:=(XA.out.up (a_c H.out.2.1 B6));obtain ⟨a2,a3,_,_⟩:=aK)
 obtain ⟨g,hg⟩:∃ g,w5.heap.size=g:=⟨_,rfl⟩
 have ac:Hid (Below w.heap.size w w6/\Below W0.heap.size W0 w6/\Below W2.heap.size W2 w6):=⟨a_c H.out.1 B6,a_c H.out.2.1 B6,a_c H.out.2.2 B6⟩
 rw [hg] at ai ⊢;have hz:=a_a XR.out.1;have Hg:Hid (W0.heap.size<=g/\w.heap.size+2 < W0.heap.size/\bl < g):=⟨by rw [<- hg];exact H.out.2.1.size,hz,by rw [<- hg];exact Nat.lt_of_lt_of_le (a_a XL.out.1) H.out.2.2.size⟩
 have aN:Hid (OwnK .i64 48 w6 g (.slice (some ⟨g,0,none⟩) E E) (b_I V 0)):=by
  show OwnK _ _ _ _ _ _;rw [a_1,HV.out.2.1];exact ai.out
 clear a0 a1 a2 a3 L b1 z0 z1 ai B6 hg hz
 go_loopg [45] E (fun gg i wr=>∃ (q:Nat),q<=E/\gg=E - q/\i = .int .i64 (q:Int)/\Hid (OwnK .i64 48 wr g (.slice (some ⟨g,0,none⟩) E E) (b_I V q))/\Hid (Below w.heap.size w wr/\Stay g w6 wr))
 case atStart=>exact ⟨0,by omega,by omega,by first|rfl|simp,aN,ac.out.1,Stay.refl _ _⟩
 case round=>
  obtain ⟨j,hj,hg,rfl,au,I⟩:=hrel;obtain ⟨R1,aG⟩:∃ R1:World,R1=wr:=⟨_,rfl⟩
  subst aG;by_cases M:j < E
  ·have aP:(j:Int) < (E:Int):=by omega
   obtain ⟨q,o,rfl,ay⟩:=HX.out.2 j M;have ar:=a_d ay I.out.1;obtain ⟨q',o',rfl,ax⟩:=HY.out.2 j M;have ah:=a_d ax I.out.1;have ry:=HV.out.2.2.2.1.at j (by rw [HV.out.2.2.2.2.2.1];exact M);obtain ⟨X,eX⟩:∃ X,x.getD j 0=X:=⟨_,rfl⟩
   obtain ⟨Y,eY⟩:∃ Y,y.getD j 0=Y:=⟨_,rfl⟩
   rw [eX] at ar;rw [eY] at ah ry;obtain ⟨SL,eS⟩:∃ SL,Fx.slopeI k X=SL:=⟨_,rfl⟩
   obtain ⟨Z,eZ⟩:∃ Z,Fx.mulI Y SL=Z:=⟨_,rfl⟩
   have HZ:Hid (V.getD j 0=Z):=by
    show _=_;rw [<- HV.out.1,a_J _ _ _ _ (by rw [HV.out.2.2.2.2.1];exact M),eX,eY,eS,eZ]
   have rs:InR SL:=by rw [<- eS];exact m_v _ _
   have cs:∀ W,Calls Tryz.prog K2 #[.int .i64 X] W fun e w'=>e = .returned (.int .i64 SL)/\w'=W:=fun W=>by rw [<- eS];exact aM.out X W
   have cm:∀ W,Calls Tryz.prog 123 #[.int .i64 Y,.int .i64 SL] W fun e w'=>e = .returned (.int .i64 Z)/\w'=W:=fun W=>by rw [<- eZ];exact Fx.mul_any Y SL ry rs W
   have aw:bl≠g:=by have:=Hg.out;omega
   have J:w.heap.size+1≠g:=by have:=Hg.out;omega
   obtain ⟨l0,l1,_,_⟩:=(XL.out.up ac.out.2.2).stay I.out.2 aw;obtain ⟨L,b1,_,_⟩:=(XB.out.up ac.out.2.1).stay I.out.2 J;have aL:w.heap.size<=g:=by have:=Hg.out;have:=ap.out.size;omega
   have z0:=a_a l0;have z1:=a_a L;have z2:=a_a ar;have z3:=a_a ah;have z4:=au.out.size;have Hk:Hid (j < V.length):=by show _ < _;rw [HV.out.2.1];exact M
   clear eX eY eS eZ ay ax aw J ry rs;go_wp2_with fail
   refine j_B 13 69 (by kernel_rfl) rfl rfl (by kernel_rfl) ?_;apply Exists.intro;refine ⟨?_,?_⟩
   ·intro F hF;have hFc:=hF.cell;have hFf:=hF.frozen;simp only [List.take_succ_cons,List.take_zero,List.eraseIdx_cons_succ,List.eraseIdx_cons_zero]
    repeat (go_big_quiet_step (first|(go_at_call 123;with_reducible exact hF.same (cm _))|(rw [av.out];exact ⟨rfl,hF.same (cs _)⟩)))
    refine wpQuiet_nil ?_;exact rfl
   ·intro R2 ad;simp only [List.drop_succ_cons,List.drop_zero];have am:=au.out.up ad;obtain ⟨aO,aQ⟩:=am.cell (by rw [a_z];exact HV.out.2.1) j M
    have H5:Hid (OwnK .i64 48 (R2.setCell ⟨g,j,none⟩ (.int .i64 Z)) g (.slice (some ⟨g,0,none⟩) E E) (b_I V (j+1))):=by
     have:=am.store (by rw [a_z];exact HV.out.2.1) j Z;rw [<- HZ.out,b_r V j Hk.out] at this;rw [<- HZ.out];exact this
    have H6:Hid (Below w.heap.size w (R2.setCell ⟨g,j,none⟩ (.int .i64 Z))/\Stay g w6 (R2.setCell ⟨g,j,none⟩ (.int .i64 Z))):=⟨(a_c I.out.1 ad).setCell (p:=⟨g,j,none⟩) aL _,(I.out.2.up ad).set _ _⟩
    clear am ad cs cm z0 z1 z2 z3 z4 l0 l1 L b1 ar ah;go_wp2;go_roundg (E - (j+1))
    case measure=>omega
    case rel=>exact ⟨j+1,by omega,rfl,by first|rfl|simp,H5,H6⟩
  ·obtain rfl:j=E:=by omega
   have ag:w.heap.size+1≠g:=by have:=Hg.out;omega
   have J:w.heap.size+2≠g:=by have:=Hg.out;omega
   obtain ⟨L,b1,_,_⟩:=(XB.out.up ac.out.2.1).stay I.out.2 ag;have aA:=(XR.out.up ac.out.2.1).stay I.out.2 J;have ab:=au.out;rw [<- HV.out.2.1,b_h,HV.out.2.1] at ab;have aC:Hid (OwnK .i64 48 R1 g (.slice (some ⟨g,0,none⟩) j j) V):=ab;have cc:=b_j _ d' HV.out.2.2.2.2.2.2 R1 (HN.out.up I.out.1);have aF:Hid (Cel R1 (w.heap.size+2) (.slice none 0 0) (.slice none 0 0)):=aA;clear ab aA ag J;go_wp2_with fail
   refine cc.mono ?_;rintro e w7 ⟨v7,rfl,h7,ao⟩;obtain ⟨p7,n7,c7,rfl,_⟩:=h7.nums.lst
   have HF:Hid (TRes (set2 w7 (w.heap.size+2) (.slice p7 n7 c7) (.slice (some ⟨g,0,none⟩) j j)) w.heap.size (.agg #[.slice p7 n7 c7,.slice (some ⟨g,0,none⟩) j j]) d' V/\Below w.heap.size w (set2 w7 (w.heap.size+2) (.slice p7 n7 c7) (.slice (some ⟨g,0,none⟩) j j))):=by
    have hs:g<=R1.heap.size:=Nat.le_of_lt aC.out.size;exact ⟨(TRes.set (h7.low (Nat.le_trans Hg.out.1 hs)) ((aC.out.up ao).low Hg.out.1) Hg.out.2.1).low ap.out.size,a_j (a_c I.out.1 ao) _ (by omega) _ _⟩
   clear cc h7 L b1;have xr:=(aF.out.up ao)
   have cf:=xr.set (.slice p7 n7 c7) (.slice (some ⟨g,0,none⟩) j j);obtain ⟨r0,r1,r2,r3⟩:=xr;obtain ⟨y0,y1,_,_⟩:=cf;go_wp2;exact bodyPost_ret (v:=.tuple #[.agg #[.slice p7 n7 c7,.slice (some ⟨g,0,none⟩) j j],.int .i64 0]) (by simp [results,Tryz.results99,go_sem,y0,y1]) rfl ⟨_,rfl,HF.out⟩
theorem o_E (k:Int) (p O E L:Option Addr) (n c M J H V I U:Nat) (d x d' y:List Int) (hd:RI d) (hx:RI x) (R:RI d') (hy:RI y) (D:q_L k d x d' y=0) (w:World) (h1:Nums .i64 w (.slice p n c) d) (h2:Nums .i64 w (.slice O M J) x) (h3:Nums .i64 w (.slice E H V) d') (h4:Nums .i64 w (.slice L I U) y):
  Calls Tryz.prog 99 #[.int .i64 k,.agg #[.slice p n c,.slice O M J],.agg #[.slice E H V,.slice L I U]] w fun e w'=>∃ v',e = .returned (.tuple #[v',.int .i64 (q_L k d x d' y)])/\TRes w' w.heap.size v' (o_D k d x d' y) (p_t k d x d' y)/\Below w.heap.size w w':=by
 by_cases h:(1<=k/\k<=5)/\isP d x/\isP d' y
 ·by_cases h':d=d'
  ·exact m_J k p O E L n c M J H V I U d x d' y hd hx R hy w h1 h2 h3 h4 ⟨h,h'⟩
  ·rw [(q_M h h').1] at D;cases D
 ·rw [(s_d h).1] at D;cases D
/-- Numbers again and again along a side. -/
def q_O (d:List Nat) (s:Nat) (g:List Int):List Int:=(List.range (a_e d)).map fun j=>g.getD (j / (d.getD s 0*a_e (d.drop (s+1)))*a_e (d.drop (s+1))+j % a_e (d.drop (s+1))) 0
/-- Noughts, but at so many places these numbers. -/
def h_w (N:Nat) (p g:List Int):Nat->List Int
 | 0=>List.replicate N 0
 | k+1=>(h_w N p g k).set (p.getD k 0).toNat (g.getD k 0)
theorem g_7 (N:Nat) (p g:List Int):∀ k,(h_w N p g k).length=N
 | 0=>by simp [h_w]
 | k+1=>by rw [h_w,List.length_set,g_7 N p g k]
abbrev Ten:=List Int×List Int
def c_m (t:Ten) (d:List Int):Ten:=(i_e t.1 t.2 d,i_f t.1 t.2 d)
def i_s (s t:Ten):Ten:=(b_J s.1 s.2 t.1 t.2,b_Z Fx.mulI s.1 s.2 t.1 t.2)
def q_P (s t:Ten):Ten:=(b_J s.1 s.2 t.1 t.2,b_Z (fun a b=>Fx.hold (a+b)) s.1 s.2 t.1 t.2)
def d_j (t:Ten) (k:Int):Ten:=(f_x t.1 t.2,f_y t.1 t.2 k)
def e_E (t:Ten):Ten:=(flD t.1 t.2,flV t.1 t.2)
def mm2 (s t:Ten):Ten:=(mD s.1 s.2 t.1 t.2,mV s.1 s.2 t.1 t.2)
/-- For A. -/
def onA (op k:Int) (a b g:Ten):Ten:=
 if op=2∨op=3 then c_m g a.1 else if op=4 then c_m (i_s g b) a.1 else if op=5 then d_j g k else if op=6 then mm2 g (e_E b) else if op=7 then e_E g
 else if op=8 then (a.1,q_O (ntl a.1) k.toNat g.2) else if op=9 then (a.1,List.replicate (a_e (ntl a.1)) (g.2.getD 0 0)) else if op=10 then (a.1,List.replicate (a_e (ntl a.1)) (Fx.hold (rqI (g.2.getD 0 0) (a.2.length:Int))))
 else if op=11 then (o_D k a.1 a.2 g.1 g.2,p_t k a.1 a.2 g.1 g.2) else if op=12 then (biD g.1 g.2 b.1 b.2 k (a.1.getD 1 0),biV g.1 g.2 b.1 b.2 k (a.1.getD 1 0))
 else if op=13 then (a.1,h_w (a_e (ntl a.1)) (plP a.1 a.2 k) g.2 (plP a.1 a.2 k).length) else if op=14 then (j_K g.1 g.2 a.1,l_d g.1 g.2 a.1) else ([],[])
/-- For B. -/
def onB (op k:Int) (a b g:Ten):Ten:=
 if op=2 then c_m g b.1 else if op=3 then c_m (d_j g (-4294967296)) b.1 else if op=4 then c_m (i_s g a) b.1 else if op=6 then mm2 (e_E a) g
 else if op=12 then (bkD g.1 g.2 a.1 a.2 k (b.1.getD 2 0),bkV g.1 g.2 a.1 a.2 k (b.1.getD 2 0)) else ([],[])
abbrev b_b (t:Ten):Prop:=c_u t.1 t.2
theorem p_u {t:Ten} {d:List Int} (J:b_b t) (hf:i_d t.1 t.2 d):b_b (c_m t d)/\(c_m t d).1=d:=by
 obtain ⟨a,b,D⟩:=q_K hf;obtain ⟨_,I,E⟩:=D.V hf;have H:(c_m t d).1=d:=if_pos hf;refine ⟨?_,H⟩;show c_u (i_e t.1 t.2 d) (i_f t.1 t.2 d);rw [I,E];refine f_0 (f_I D.gb ?_) (j_8 _);exact f_n _ _ _ _ _
/-- What two join to, each is spread to. -/
theorem g_t {d x d' y:List Int} {a b J:List Nat} (h:Joint d x d' y a b J) {g:List Int} (D:isP (itl J) g):i_d (itl J) g d/\i_d (itl J) g d':=by
 have H:goodN (joinN a J):=by rw [h.ja];exact h.gJ
 have L:goodN (joinN b J):=by rw [h.jb];exact h.gJ
 obtain ⟨I,M⟩:=b_u h.ga h.gJ h.fa H;obtain ⟨O,E⟩:=b_u h.gb h.gJ h.fb L;refine ⟨⟨⟨D,by rw [h.da,a_p];exact h.ga⟩,?_,?_⟩,⟨D,by rw [h.db,a_p];exact h.gb⟩,?_,?_⟩
 ·rw [h.da];exact M
 ·rw [h.da,I,h.ja]
 ·rw [h.db];exact E
 ·rw [h.db,O,h.jb]
/-- Times one of the two: the shape stays. -/
theorem o_F {t s:Ten} {J b:List Nat} (R:b_b t) (hs:b_b s) (E:t.1=itl J) (I:s.1=itl b) (M:goodN J) (U:goodN b) (fb:b_2 b J) (V:joinN b J=J):b_b (i_s t s)/\(i_s t s).1=t.1:=by
 have f2:b_2 J b:=fun i h1 h2=>by
  have:=fb i h1 (by omega);rcases this with h|h|h
  ·exact .inl h.symm
  ·exact .inr (.inr h)
  ·exact .inr (.inl h)
 have L:joinN J b=J:=by rw [b_5];exact V
 obtain ⟨p1,p2⟩:=b_u M U f2 (by rw [L];exact M);have O:b_x t.1 s.1=0:=by rw [E,I];exact p2
 have H:isP t.1 t.2/\isP s.1 s.2:=⟨R.1,hs.1⟩
 have D:b_C t.1 t.2 s.1 s.2=0:=(if_pos H).trans O;have hD:b_J t.1 t.2 s.1 s.2=t.1:=(if_pos H).trans (by rw [E,I,p1,L]);exact ⟨i_a (fun a b=>e_W a b) D,hD⟩
theorem t_l {t s:Ten} (I:b_b t) (L:b_b s) (e:s.1=t.1):b_b (q_P t s)/\(q_P t s).1=t.1:=by
 obtain ⟨a,D,J⟩:=b_n I.1.1;obtain ⟨f,j⟩:=h_J a;obtain ⟨O,R⟩:=b_u D D f (by rw [j];exact D);have H:isP t.1 t.2/\isP s.1 s.2:=⟨I.1,L.1⟩
 have E:b_C t.1 t.2 s.1 s.2=0:=(if_pos H).trans (by rw [e,J];exact R);have M:b_J t.1 t.2 s.1 s.2=t.1:=(if_pos H).trans (by rw [e,J,O,j]);exact ⟨i_a (fun a b=>hold_rng _) E,M⟩
theorem e_1 {t:Ten} (D:b_b t) (k:Int):b_b (d_j t k)/\(d_j t k).1=t.1:=⟨m_y (if_pos D.1),if_pos D.1⟩
theorem m_K {n:Nat} {v:Int} (h:InR v):RI (List.replicate n v):=fun y D=>by rw [List.eq_of_mem_replicate D];exact h
theorem q_Q {d:List Int} {v:Int} (D:goodN (ntl d)) (h:InR v):c_u d (List.replicate (a_e (ntl d)) v):=f_0 ⟨D,by simp⟩ (m_K h)
theorem p_v {N:Nat} {p g:List Int} (E:RI g):∀ k,RI (h_w N p g k)
 | 0=>m_K (by unfold InR;omega)
 | k+1=>fun y D=>by
  rw [h_w] at D;rcases List.mem_or_eq_of_mem_set D with h|h
  ·exact p_v E k y h
  ·rw [h];exact d_h E k
theorem i_W {op k:Int} {a b g:Ten} (ho:op=2∨op=3∨op=4) (U:b_b a) (hb:b_b b) (hE:b_C a.1 a.2 b.1 b.2=0) (I:b_b g) (eg:g.1=b_J a.1 a.2 b.1 b.2):
  (b_b (onA op k a b g)/\(onA op k a b g).1=a.1)/\b_b (onB op k a b g)/\(onB op k a b g).1=b.1:=by
 have O:isP a.1 a.2/\isP b.1 b.2:=⟨U.1,hb.1⟩
 have hj:b_x a.1 b.1=0:=(if_pos O).symm.trans hE;obtain ⟨A,B,J,h⟩:=n_3 O hj;have L:g.1=itl J:=eg.trans (h.E (op:=fun a b=>a)).2.1;have pg:∀ t:Ten,b_b t->t.1=g.1->isP (itl J) t.2:=fun t D M=>by rw [<- L,<- M];exact D.1
 have H:∀ t:Ten,b_b t->t.1=g.1->(b_b (c_m t a.1)/\(c_m t a.1).1=a.1)/\b_b (c_m t b.1)/\(c_m t b.1).1=b.1:=fun t D M=>by
  have hf:=g_t h (pg t D M);rw [<- L,<- M] at hf;exact ⟨p_u D hf.1,p_u D hf.2⟩
 rcases ho with rfl|rfl|rfl
 ·exact H g I rfl
 ·have V:=e_1 I (-4294967296);exact ⟨(H g I rfl).1,(H _ V.1 V.2).2⟩
 ·have h1:=o_F I hb L h.db h.gJ h.gb h.fb h.jb;have R:=o_F I U L h.da h.gJ h.ga h.fa h.ja;exact ⟨(H _ h1.1 h1.2).1,(H _ R.1 R.2).2⟩
theorem g_8 {E D:Nat} {x:List Int} (h:c_u [(E:Int),(D:Int)] x):b_b (e_E ([(E:Int),(D:Int)],x))/\(e_E ([(E:Int),(D:Int)],x)).1 = [(D:Int),(E:Int)]:=by
 have H:flE [(E:Int),(D:Int)] x=0:=(if_pos h.1).trans (if_pos rfl);exact ⟨t_M h.2.2 H,if_pos ⟨h.1,rfl⟩⟩
theorem p_w {A C E:Nat} {x y:List Int} (I:c_u [(A:Int),(C:Int)] x) (H:c_u [(C:Int),(E:Int)] y) (J:goodN (ntl [(A:Int),(E:Int)])):b_b (mm2 ([(A:Int),(C:Int)],x) ([(C:Int),(E:Int)],y))/\(mm2 ([(A:Int),(C:Int)],x) ([(C:Int),(E:Int)],y)).1 = [(A:Int),(E:Int)]:=by
 have D:mP [(A:Int),(C:Int)] x [(C:Int),(E:Int)] y:=⟨⟨I.1,H.1⟩,rfl,rfl,rfl⟩
 have L:mE [(A:Int),(C:Int)] x [(C:Int),(E:Int)] y=0:=(if_pos ⟨I.1,H.1⟩).trans ((if_pos D).trans (if_pos J));exact ⟨m_g L,if_pos ⟨D,J⟩⟩
theorem s_e {k:Int} {a b g:Ten} (J:b_b a) (hb:b_b b) (H:mE a.1 a.2 b.1 b.2=0) (hg:b_b g) (eg:g.1=mD a.1 a.2 b.1 b.2):
  (b_b (onA 6 k a b g)/\(onA 6 k a b g).1=a.1)/\b_b (onB 6 k a b g)/\(onB 6 k a b g).1=b.1:=by
 have D:mP a.1 a.2 b.1 b.2/\mG a.1 b.1:=by
  unfold mE at H;by_cases V:isP a.1 a.2/\isP b.1 b.2
  ·rw [if_pos V] at H;by_cases I:mP a.1 a.2 b.1 b.2
   ·rw [if_pos I] at H;by_cases hq:mG a.1 b.1
    ·exact ⟨I,hq⟩
    ·rw [if_neg hq] at H;cases H
   ·rw [if_neg I] at H;cases H
  ·rw [if_neg V] at H;cases H
 have M:=eg.trans (if_pos D);obtain ⟨aD,aX⟩:=a;obtain ⟨bD,bX⟩:=b;obtain ⟨gD,gX⟩:=g;obtain ⟨A,C,rfl,_⟩:=a_W J.1 D.1.2.2.1;obtain ⟨C',E,rfl,_⟩:=a_W hb.1 D.1.2.1;obtain rfl:C=C':=by have:=D.1.2.2.2;simp at this;omega
 have O:gD = [(A:Int),(E:Int)]:=M;subst O;have R:=g_8 hb;have L:=g_8 J;have U:e_E ([(C:Int),(E:Int)],bX)=([(E:Int),(C:Int)],(e_E ([(C:Int),(E:Int)],bX)).2):=Prod.ext R.2 rfl;have e2:e_E ([(A:Int),(C:Int)],aX)=([(C:Int),(A:Int)],(e_E ([(A:Int),(C:Int)],aX)).2):=Prod.ext L.2 rfl;rw [U] at R;rw [e2] at L;refine ⟨?_,?_⟩
 ·show b_b (mm2 _ (e_E _))/\(mm2 _ (e_E _)).1=_;rw [U];exact p_w hg R.1 J.1.1
 ·show b_b (mm2 (e_E _) _)/\(mm2 (e_E _) _).1=_;rw [e2];exact p_w L.1 hg hb.1.1
theorem s_f {k:Int} {a b g:Ten} (I:b_b a) (hb:b_b b) (D:rwE a.1 a.2 b.1 b.2 k=0) (hg:b_b g) (eg:g.1=rwD a.1 a.2 b.1 b.2 k):
  (b_b (onA 12 k a b g)/\(onA 12 k a b g).1=a.1)/\b_b (onB 12 k a b g)/\(onB 12 k a b g).1=b.1:=by
 have M:rwA a.1 a.2 b.1 b.2 k/\rwS a.1 b.1/\goodN (ntl (rwO a.1 b.1 k)):=by
  unfold rwE at D;by_cases V:rwA a.1 a.2 b.1 b.2 k
  ·rw [if_pos V] at D;by_cases U:rwS a.1 b.1
   ·rw [if_pos U] at D;unfold f_7 at D;by_cases hq:goodN (ntl (rwO a.1 b.1 k))
    ·exact ⟨V,U,hq⟩
    ·rw [if_neg hq] at D;cases D
   ·rw [if_neg U] at D;cases D
  ·rw [if_neg V] at D;cases D
 obtain ⟨J,H,hG⟩:=M;have aa:g.1=rwO a.1 b.1 k:=eg.trans ((if_pos ⟨J,H⟩).trans (if_pos hG));obtain ⟨st,rfl⟩:∃ q:Nat,k=q:=⟨k.toNat,by have:=J.2.2;omega⟩
 obtain ⟨aD,aX⟩:=a;obtain ⟨bD,bX⟩:=b;obtain ⟨gD,gX⟩:=g;obtain ⟨R,L,rfl,ac,k0,k1,k2⟩:=a_W I.1 H.1;obtain ⟨O,R',wd,rfl,ad,l0,l1,l2,l3⟩:=c_h hb.1 H.2.1;obtain rfl:R=R':=by have:=H.2.2.1;simp at this;omega
 have hw:wd<=L:=by have:=H.2.2.2;simp at this;omega
 obtain ⟨S,E⟩:∃ S,a_M L wd st=S:=⟨_,rfl⟩
 have ab:gD = [(O:Int),(S:Int)]:=aa.trans (by rw [<- E];rfl);subst ab;have z:=c_N k2 k0 k1;have zw:wd<=4096:=by omega
 have b1:biA [(O:Int),(S:Int)] gX [(O:Int),(R:Int),(wd:Int)] bX st L:=⟨hg.1,hb.1,J.2.2,by omega,by omega⟩
 have b2:biA [(O:Int),(S:Int)] gX [(R:Int),(L:Int)] aX st wd:=⟨hg.1,I.1,J.2.2,by omega,by omega⟩
 obtain ⟨_,e2,e3⟩:=i_O b1 hw E;obtain ⟨_,f2,f3⟩:=i_P b2 hw E;refine ⟨?_,?_⟩
 ·show c_u (biD _ _ _ _ _ _) (biV _ _ _ _ _ _)/\biD _ _ _ _ _ _=_;rw [show ((([(R:Int),(L:Int)],aX):Ten).1.getD 1 0)=(L:Int) from rfl,e2,e3];unfold d_Y;rw [if_pos I.1.1,if_pos I.1.1];refine ⟨f_0 ⟨I.1.1,?_⟩ ?_,rfl⟩
  ·rw [m_f];exact (c_o R L).symm
  ·unfold h_7;exact c_C fun i _=>by unfold k_L rnd;exact hold_rng _
 ·show c_u (bkD _ _ _ _ _ _) (bkV _ _ _ _ _ _)/\bkD _ _ _ _ _ _=_;rw [show ((([(O:Int),(R:Int),(wd:Int)],bX):Ten).1.getD 2 0)=(wd:Int) from rfl,f2,f3];unfold d_Y;rw [if_pos hb.1.1,if_pos hb.1.1];refine ⟨f_0 ⟨hb.1.1,?_⟩ ?_,rfl⟩
  ·rw [o_r];exact (e_w O R wd).symm
  ·unfold p_o;exact c_C fun i _=>by unfold r_T rnd;exact hold_rng _
/-- An Op of one node. -/
theorem s_g {op k:Int} {a g:Ten} (ho:op=5∨op=7∨op=8∨op=9∨op=10∨op=11∨op=13∨op=14) (E:b_b a) (M:rkE op a.1 a.2 [] [] k=0) (H:b_b g) (J:g.1=rkD op a.1 a.2 [] [] k):
  b_b (onA op k a ([],[]) g)/\(onA op k a ([],[]) g).1=a.1:=by
 rcases ho with rfl|rfl|rfl|rfl|rfl|rfl|rfl|rfl
 ·have e:g.1=a.1:=J.trans (if_pos E.1);have h:=e_1 H k;exact ⟨h.1,h.2.trans e⟩
 ·have D:flE a.1 a.2=0:=M
  have L:a.1.length=2:=by
   unfold flE at D;rw [if_pos E.1] at D;by_cases h:a.1.length=2
   ·exact h
   ·rw [if_neg h] at D;cases D
  obtain ⟨aD,aX⟩:=a;obtain ⟨gD,gX⟩:=g;obtain ⟨O,U,rfl,_⟩:=a_W E.1 L;have e0:flD [(O:Int),(U:Int)] aX = [(U:Int),(O:Int)]:=if_pos ⟨E.1,rfl⟩;have e:gD = [(U:Int),(O:Int)]:=J.trans e0;subst e;exact g_8 H
 ·show c_u a.1 (q_O (ntl a.1) k.toNat g.2)/\a.1=a.1;refine ⟨f_0 ⟨E.1.1,by unfold q_O;simp⟩ ?_,rfl⟩;unfold q_O;exact c_C fun j _=>d_h H.2.2 _
 ·exact ⟨q_Q E.1.1 (d_h H.2.2 _),rfl⟩
 ·exact ⟨q_Q E.1.1 (hold_rng _),rfl⟩
 ·have D:g_6 k a.1 a.2=0:=M
  have V:(1<=k/\k<=5)/\isP a.1 a.2:=by
   unfold g_6 at D;by_cases h:(1<=k/\k<=5)/\isP a.1 a.2
   ·exact h
   ·rw [if_neg h] at D;cases D
  have e:g.1=a.1:=J.trans (if_pos V);have I:((1<=k/\k<=5)/\isP a.1 a.2/\isP g.1 g.2)/\a.1=g.1:=⟨⟨V.1,E.1,H.1⟩,e.symm⟩
  show c_u (o_D k a.1 a.2 g.1 g.2) (p_t k a.1 a.2 g.1 g.2)/\o_D k a.1 a.2 g.1 g.2=a.1;unfold o_D p_t;rw [if_pos I,if_pos I];refine ⟨f_0 ⟨H.1.1,?_⟩ (c_C fun i _=>e_W _ _),e⟩;rw [List.length_map,List.length_range,e];exact E.1.2
 ·refine ⟨f_0 ⟨E.1.1,g_7 _ _ _ _⟩ (p_v H.2.2 _),rfl⟩
 ·have D:j_J a.1 a.2 [(a.2.length:Int)]=0:=M
  have I:(isP a.1 a.2/\goodN (ntl [(a.2.length:Int)]))/\a_e (ntl [(a.2.length:Int)])=a.2.length:=by
   unfold j_J at D;by_cases h:isP a.1 a.2/\goodN (ntl [(a.2.length:Int)])
   ·rw [if_pos h] at D;by_cases L:a_e (ntl [(a.2.length:Int)])=a.2.length
    ·exact ⟨h,L⟩
    ·rw [if_neg L] at D;cases D
   ·rw [if_neg h] at D;cases D
  have e:g.1 = [(a.2.length:Int)]:=J.trans (if_pos I);have hl:g.2.length=a.2.length:=by rw [H.1.2,e];exact I.2
  have R:(isP g.1 g.2/\goodN (ntl a.1))/\a_e (ntl a.1)=g.2.length:=⟨⟨H.1,E.1.1⟩,by rw [hl];exact E.1.2.symm⟩
  show c_u (j_K g.1 g.2 a.1) (l_d g.1 g.2 a.1)/\j_K g.1 g.2 a.1=a.1;unfold j_K l_d;rw [if_pos R,if_pos R];exact ⟨f_0 ⟨E.1.1,R.2.symm⟩ H.2.2,rfl⟩
/-- A node that was reckoned of those ahead of it. -/
def NdV (ns:List Nd) (i:Nat) (nd:Nd):Prop:=
 (nd.op=1/\nd.a = -1/\nd.b = -1)∨((2<=nd.op/\nd.op<=14)/\(0<=nd.a/\nd.a < (i:Int))/\(d_D nd.op->0<=nd.b/\nd.b < (i:Int))/\(¬ d_D nd.op->nd.b = -1)
  /\ rkE nd.op (ndN ns nd.a).D (ndN ns nd.a).X (dD ns nd.op nd.b) (dX ns nd.op nd.b) nd.k=0/\nd.D=rkD nd.op (ndN ns nd.a).D (ndN ns nd.a).X (dD ns nd.op nd.b) (dX ns nd.op nd.b) nd.k)
def NodesV (ns:List Nd):Prop:=∀ i nd,ns[i]?=some nd->NdV ns i nd
theorem j_9 {ns:List Nd} {x:Nd} {i:Int} (D:0<=i) (E:i < (ns.length:Int)):ndN (ns++[x]) i=ndN ns i:=by
 unfold ndN;rw [List.getD_eq_getElem?_getD,List.getD_eq_getElem?_getD,List.getElem?_append_left (by omega)]
theorem NdV.push {ns:List Nd} {i:Nat} {nd x:Nd} (h:NdV ns i nd) (R:i<=ns.length):NdV (ns++[x]) i nd:=by
 rcases h with h|⟨O,I,H,J,M⟩
 ·exact .inl h
 ·have L:ndN (ns++[x]) nd.a=ndN ns nd.a:=j_9 I.1 (by omega)
  have E:dD (ns++[x]) nd.op nd.b=dD ns nd.op nd.b/\dX (ns++[x]) nd.op nd.b=dX ns nd.op nd.b:=by
   unfold dD dX;by_cases D:d_D nd.op
   ·have:=H D;rw [if_pos D,if_pos D,if_pos D,if_pos D,j_9 this.1 (by omega)];exact ⟨rfl,rfl⟩
   ·rw [if_neg D,if_neg D,if_neg D,if_neg D];exact ⟨rfl,rfl⟩
  refine .inr ⟨O,I,H,J,?_⟩;rw [L,E.1,E.2];exact M
theorem NodesV.nil:NodesV []:=fun i nd h=>by simp at h
theorem NodesV.push {ns:List Nd} {x:Nd} (h:NodesV ns) (I:NdV ns ns.length x):NodesV (ns++[x]):=fun i nd D=>by
 by_cases H:i < ns.length
 ·rw [List.getElem?_append_left H] at D;exact (h i nd D).push (by omega)
 ·rw [List.getElem?_append_right (by omega)] at D
  have E:i - ns.length=0:=by
   rcases Nat.eq_zero_or_pos (i - ns.length) with e|e
   ·exact e
   ·rw [List.getElem?_eq_none (by simp;omega)] at D;cases D
  rw [E] at D;cases D;obtain rfl:i=ns.length:=by omega
  exact I.push (Nat.le_refl _)
theorem NodesV.leaf {ns:List Nd} {d x:List Int} (h:NodesV ns):NodesV (c_S ns d x):=by
 unfold c_S
 split
 ·exact h.push (.inl ⟨rfl,rfl,rfl⟩)
 ·exact h
theorem NodesV.do {ns:List Nd} {op a b k:Int} (h:NodesV ns):NodesV (doN ns op a b k):=by
 unfold doN
 split
 ·rename_i I
  have E:=I.1.2
  have H:dD ns op (dB op b)=dD ns op b/\dX ns op (dB op b)=dX ns op b:=by
   unfold dD dX dB;by_cases D:d_D op
   ·simp only [if_pos D];exact ⟨trivial,trivial⟩
   ·simp only [if_neg D];exact ⟨trivial,trivial⟩
  refine h.push (.inr ⟨E.1,E.2.1,fun D=>?_,fun D=>if_neg D,?_⟩)
  ·have e:(dN ns op a b k).b=b:=if_pos D;rw [e];exact E.2.2 D
  ·show rkE op _ _ (dD ns op (dB op b)) (dX ns op (dB op b)) _=0/\rkD op _ _ _ _ _=rkD op _ _ (dD ns op (dB op b)) (dX ns op (dB op b)) _;rw [H.1,H.2];exact ⟨I.2,rfl⟩
 ·exact h
/-- The two that a node is of. -/
def aOf (ns:List Nd) (nd:Nd):Ten:=((ndN ns nd.a).D,(ndN ns nd.a).X)
def bOf (ns:List Nd) (nd:Nd):Ten:=(dD ns nd.op nd.b,dX ns nd.op nd.b)
/-- What a gradient of a node gives is of their shapes. -/
theorem t_N {ns:List Nd} (R:NodesG ns) (hV:NodesV ns) {i:Nat} {nd:Nd} (O:ns[i]?=some nd) (h1:nd.op≠1) {g:Ten} (M:b_b g) (U:g.1=nd.D):
  (b_b (onA nd.op nd.k (aOf ns nd) (bOf ns nd) g)/\(onA nd.op nd.k (aOf ns nd) (bOf ns nd) g).1=(aOf ns nd).1)/\(d_D nd.op->b_b (onB nd.op nd.k (aOf ns nd) (bOf ns nd) g)/\(onB nd.op nd.k (aOf ns nd) (bOf ns nd) g).1=(bOf ns nd).1):=by
 have hl:i < ns.length:=(List.getElem?_eq_some_iff.1 O).1;rcases hV i nd O with h|⟨ho,ha,hb,aa,H,hD⟩
 ·exact absurd h.1 h1
 have L:b_b (aOf ns nd):=R.at ha.1 (by omega)
 have gb:d_D nd.op->b_b (bOf ns nd):=fun J=>by
  have:=hb J;show c_u (dD ns nd.op nd.b) (dX ns nd.op nd.b);unfold dD dX;rw [if_pos J,if_pos J];exact R.at this.1 (by omega)
 have E:=U.trans hD;by_cases J:d_D nd.op
 ·have I:=gb J;rcases J with e|e|e|e|e
  ·rw [e] at H E ⊢;have:=i_W (op:=2) (k:=nd.k) (.inl rfl) L I (by rw [show bOf ns nd=(dD ns 2 nd.b,dX ns 2 nd.b) by unfold bOf;rw [e]];exact H) M (by rw [show bOf ns nd=(dD ns 2 nd.b,dX ns 2 nd.b) by unfold bOf;rw [e]];exact E);exact ⟨this.1,fun _=>this.2⟩
  ·rw [e] at H E ⊢;have:=i_W (op:=3) (k:=nd.k) (.inr (.inl rfl)) L I (by rw [show bOf ns nd=(dD ns 3 nd.b,dX ns 3 nd.b) by unfold bOf;rw [e]];exact H) M (by rw [show bOf ns nd=(dD ns 3 nd.b,dX ns 3 nd.b) by unfold bOf;rw [e]];exact E);exact ⟨this.1,fun _=>this.2⟩
  ·rw [e] at H E ⊢;have:=i_W (op:=4) (k:=nd.k) (.inr (.inr rfl)) L I (by rw [show bOf ns nd=(dD ns 4 nd.b,dX ns 4 nd.b) by unfold bOf;rw [e]];exact H) M (by rw [show bOf ns nd=(dD ns 4 nd.b,dX ns 4 nd.b) by unfold bOf;rw [e]];exact E);exact ⟨this.1,fun _=>this.2⟩
  ·rw [e] at H E ⊢;have:=s_e (k:=nd.k) L I (by rw [show bOf ns nd=(dD ns 6 nd.b,dX ns 6 nd.b) by unfold bOf;rw [e]];exact H) M (by rw [show bOf ns nd=(dD ns 6 nd.b,dX ns 6 nd.b) by unfold bOf;rw [e]];exact E);exact ⟨this.1,fun _=>this.2⟩
  ·rw [e] at H E ⊢;have:=s_f (k:=nd.k) L I (by rw [show bOf ns nd=(dD ns 12 nd.b,dX ns 12 nd.b) by unfold bOf;rw [e]];exact H) M (by rw [show bOf ns nd=(dD ns 12 nd.b,dX ns 12 nd.b) by unfold bOf;rw [e]];exact E);exact ⟨this.1,fun _=>this.2⟩
 ·have eb:bOf ns nd=([],[]):=Prod.ext (if_neg J) (if_neg J);have V:dD ns nd.op nd.b = []:=if_neg J;have e2:dX ns nd.op nd.b = []:=if_neg J;rw [V,e2] at H E;rw [eb];exact ⟨s_g (by omega) L H M E,fun h=>absurd h J⟩
def noT:Ten:=([],[])
/-- The gradients so far, and which were given anything. -/
abbrev SwT:=List Ten×List Bool
def sw0 (ns:List Nd) (root:Nat):SwT:=(((List.range (root+1)).map fun (i:Nat)=>((ndN ns (i:Int)).D,List.replicate (ndN ns (i:Int)).X.length (0:Int))).set root ((ndN ns (root:Int)).D,[4294967296]),(List.replicate (root+1) false).set root true)
def c_D (s:SwT) (j:Nat) (p:Ten):SwT:=(s.1.set j (q_P (s.1.getD j noT) p),s.2.set j true)
def c_q (ns:List Nd) (i:Nat) (s:SwT):SwT:=
 if s.2.getD i false=true/\(ndN ns (i:Int)).op≠1 then
  if 0<=(ndN ns (i:Int)).b then c_D (c_D s (ndN ns (i:Int)).a.toNat (onA (ndN ns (i:Int)).op (ndN ns (i:Int)).k (aOf ns (ndN ns (i:Int))) (bOf ns (ndN ns (i:Int))) (s.1.getD i noT))) (ndN ns (i:Int)).b.toNat (onB (ndN ns (i:Int)).op (ndN ns (i:Int)).k (aOf ns (ndN ns (i:Int))) (bOf ns (ndN ns (i:Int))) (s.1.getD i noT))
  else c_D s (ndN ns (i:Int)).a.toNat (onA (ndN ns (i:Int)).op (ndN ns (i:Int)).k (aOf ns (ndN ns (i:Int))) (bOf ns (ndN ns (i:Int))) (s.1.getD i noT))
 else s
def swK (ns:List Nd) (root:Nat):Nat->SwT
 | 0=>sw0 ns root
 | k+1=>c_q ns (root - k) (swK ns root k)
def swE (ns:List Nd) (root:Int):Int:=if 0<=root/\root < (ns.length:Int) then if (ndN ns root).X.length=1 then 0 else 4 else 1
def swL (ns:List Nd) (root:Int):List Ten:=if swE ns root=0 then (swK ns root.toNat (root.toNat+1)).1 else []
/-- Gradients of the nodes' shapes. -/
structure SwG (ns:List Nd) (root:Nat) (s:SwT):Prop where
 l:s.1.length=root+1
 v:s.2.length=root+1
 g:∀ i:Nat,i<=root->b_b (s.1.getD i noT)/\(s.1.getD i noT).1=(ndN ns (i:Int)).D
theorem k_a {α:Type} (l:List α) (i j:Nat) (x y:α) (D:i < l.length):(l.set i x).getD j y=if i=j then x else l.getD j y:=by
 rw [List.getD_eq_getElem?_getD,List.getD_eq_getElem?_getD,List.getElem?_set];by_cases h:i=j
 ·subst h;simp [D]
 ·simp [h]
theorem SwG.give {ns:List Nd} {root:Nat} {s:SwT} (h:SwG ns root s) {j:Nat} {p:Ten} (L:j<=root) (M:b_b p) (J:p.1=(ndN ns (j:Int)).D):SwG ns root (c_D s j p):=by
 refine ⟨by simp [c_D,h.l],by simp [c_D,h.v],fun i O=>?_⟩;have H:j < s.1.length:=by rw [h.l];omega
 show b_b ((s.1.set j (q_P (s.1.getD j noT) p)).getD i noT)/\((s.1.set j (q_P (s.1.getD j noT) p)).getD i noT).1=_;rw [k_a _ _ _ _ _ H];by_cases e:j=i
 ·subst e;rw [if_pos rfl];have E:=h.g j L;have I:=t_l E.1 M (J.trans E.2.symm);exact ⟨I.1,I.2.trans E.2⟩
 ·rw [if_neg e];exact h.g i O
theorem c_U {ns:List Nd} {i:Nat} (h:i < ns.length):ns[i]?=some (ndN ns (i:Int)):=by
 have:=List.getElem?_eq_getElem h;rw [this,k_Q this]
theorem t_m {ns:List Nd} (J:NodesG ns) {root:Nat} (O:root < ns.length) (L:(ndN ns (root:Int)).X.length=1):SwG ns root (sw0 ns root):=by
 refine ⟨by simp [sw0],by simp [sw0],fun i M=>?_⟩;have H:i < ns.length:=by omega
 have E:c_u (ndN ns (i:Int)).D (ndN ns (i:Int)).X:=J _ (f_P (c_U H));show b_b ((List.set _ root _).getD i noT)/\((List.set _ root _).getD i noT).1=_;rw [k_a _ _ _ _ _ (by simp)];by_cases e:root=i
 ·subst e;rw [if_pos rfl];refine ⟨f_0 ⟨E.1.1,?_⟩ ?_,rfl⟩
  ·rw [<- E.1.2,L];rfl
  ·intro y I;simp at I;subst I;omega
 ·rw [if_neg e,List.getD_eq_getElem?_getD,List.getElem?_map,List.getElem?_range (by omega)];show c_u (ndN ns (i:Int)).D (List.replicate (ndN ns (i:Int)).X.length 0)/\(ndN ns (i:Int)).D=_;refine ⟨f_0 ⟨E.1.1,?_⟩ (m_K (by unfold InR;omega)),rfl⟩;rw [List.length_replicate];exact E.1.2
theorem SwG.step {ns:List Nd} (hG:NodesG ns) (M:NodesV ns) {root i:Nat} {s:SwT} (h:SwG ns root s) (hr:root < ns.length) (hi:i<=root):SwG ns root (c_q ns i s):=by
 unfold c_q;have E:i < ns.length:=by omega
 split
 ·rename_i L
  have O:=h.g i hi;obtain ⟨R,o2⟩:=t_N hG M (c_U E) L.2 O.1 O.2;rcases M i _ (c_U E) with U|⟨ho,V,hb,I,_⟩
  ·exact absurd U.1 L.2
  have J:=h.give (j:=(ndN ns (i:Int)).a.toNat) (by omega) R.1 (R.2.trans (by rw [Int.toNat_of_nonneg V.1];rfl))
  split
  ·rename_i aa
   have D:d_D (ndN ns (i:Int)).op:=by
    by_cases D:d_D (ndN ns (i:Int)).op
    ·exact D
    ·have:=I D;omega
   have q:=o2 D;have H:=hb D;refine J.give (by omega) q.1 (q.2.trans ?_);show dD ns _ _=_;unfold dD;rw [if_pos D,Int.toNat_of_nonneg H.1]
  ·exact J
 ·exact h
theorem q_R {ns:List Nd} (D:NodesG ns) (H:NodesV ns) {root:Nat} (E:root < ns.length) (I:(ndN ns (root:Int)).X.length=1):∀ k,SwG ns root (swK ns root k)
 | 0=>t_m D E I
 | k+1=>(q_R D H E I k).step D H E (by omega)
/-- A node's Op, its number, the two that it is of, a gradient of it. -/
def OkP (op K:Int) (a b g:Ten):Prop:=b_b a/\b_b g/\(d_D op->b_b b)/\rkE op a.1 a.2 b.1 b.2 K=0/\g.1=rkD op a.1 a.2 b.1 b.2 K
theorem k_b {d x d':List Int} (h:i_d d x d'):c_3 d x d'=0:=(if_pos h.1).trans (if_pos h.2)
/-- Ops 2, 3, 4. -/
theorem e_F {a b g:Ten} (V:b_b a) (hb:b_b b) (hE:b_C a.1 a.2 b.1 b.2=0) (D:b_b g) (eg:g.1=b_J a.1 a.2 b.1 b.2):
  (c_3 g.1 g.2 a.1=0/\c_3 g.1 g.2 b.1=0)/\(c_3 (d_j g (-4294967296)).1 (d_j g (-4294967296)).2 b.1=0/\e_L g.1 g.2=0)
  /\ (b_C g.1 g.2 b.1 b.2=0/\c_3 (i_s g b).1 (i_s g b).2 a.1=0/\b_b (i_s g b))/\b_C g.1 g.2 a.1 a.2=0/\c_3 (i_s g a).1 (i_s g a).2 b.1=0/\b_b (i_s g a):=by
 have hp:isP a.1 a.2/\isP b.1 b.2:=⟨V.1,hb.1⟩
 have hj:b_x a.1 b.1=0:=(if_pos hp).symm.trans hE;obtain ⟨A,B,J,h⟩:=n_3 hp hj;have H:g.1=itl J:=eg.trans (h.E (op:=fun a b=>a)).2.1;have pg:∀ t:Ten,b_b t->t.1=g.1->isP (itl J) t.2:=fun t U O=>by rw [<- H,<- O];exact U.1
 have R:∀ t:Ten,b_b t->t.1=g.1->c_3 t.1 t.2 a.1=0/\c_3 t.1 t.2 b.1=0:=fun t U O=>by
  have hf:=g_t h (pg t U O);rw [<- H,<- O] at hf;exact ⟨k_b hf.1,k_b hf.2⟩
 have me:∀ (s:Ten) (c:List Nat),b_b s->s.1=itl c->goodN c->b_2 c J->joinN c J=J->b_C g.1 g.2 s.1 s.2=0:=fun s c M ec gc fc jc=>by
  have f2:b_2 J c:=fun i I L=>by
   have:=fc i I (by omega);rcases this with h|h|h
   ·exact .inl h.symm
   ·exact .inr (.inr h)
   ·exact .inr (.inl h)
  have j2:joinN J c=J:=by rw [b_5];exact jc
  obtain ⟨p1,p2⟩:=b_u h.gJ gc f2 (by rw [j2];exact h.gJ);exact (if_pos ⟨D.1,M.1⟩).trans (by rw [H,ec];exact p2)
 have I:=o_F D hb H h.db h.gJ h.gb h.fb h.jb;have L:=o_F D V H h.da h.gJ h.ga h.fa h.ja;have M:=e_1 D (-4294967296);exact ⟨R g D rfl,⟨(R _ M.1 M.2).2,if_pos D.1⟩,⟨me b B hb h.db h.gb h.fb h.jb,(R _ I.1 I.2).1,I.1⟩,me a A V h.da h.ga h.fa h.ja,(R _ L.1 L.2).2,L.1⟩
/-- Op 12. -/
theorem g_u {k:Int} {a b g:Ten} (M:b_b a) (hb:b_b b) (D:rwE a.1 a.2 b.1 b.2 k=0) (hg:b_b g) (eg:g.1=rwD a.1 a.2 b.1 b.2 k):
  (biE g.1 g.2 b.1 b.2 k (a.1.getD 1 0)=0/\bkE g.1 g.2 a.1 a.2 k (b.1.getD 2 0)=0)/\a.1.length=2/\b.1.length=3:=by
 have J:rwA a.1 a.2 b.1 b.2 k/\rwS a.1 b.1/\goodN (ntl (rwO a.1 b.1 k)):=by
  unfold rwE at D;by_cases V:rwA a.1 a.2 b.1 b.2 k
  ·rw [if_pos V] at D;by_cases U:rwS a.1 b.1
   ·rw [if_pos U] at D;unfold f_7 at D;by_cases hq:goodN (ntl (rwO a.1 b.1 k))
    ·exact ⟨V,U,hq⟩
    ·rw [if_neg hq] at D;cases D
   ·rw [if_neg U] at D;cases D
  ·rw [if_neg V] at D;cases D
 obtain ⟨I,H,hG⟩:=J;have aa:g.1=rwO a.1 b.1 k:=eg.trans ((if_pos ⟨I,H⟩).trans (if_pos hG));obtain ⟨st,rfl⟩:∃ q:Nat,k=q:=⟨k.toNat,by have:=I.2.2;omega⟩
 obtain ⟨aD,aX⟩:=a;obtain ⟨bD,bX⟩:=b;obtain ⟨gD,gX⟩:=g;obtain ⟨R,L,rfl,ac,k0,k1,k2⟩:=a_W M.1 H.1;obtain ⟨O,R',wd,rfl,ad,l0,l1,l2,l3⟩:=c_h hb.1 H.2.1;obtain rfl:R=R':=by have:=H.2.2.1;simp at this;omega
 have hw:wd<=L:=by have:=H.2.2.2;simp at this;omega
 obtain ⟨S,E⟩:∃ S,a_M L wd st=S:=⟨_,rfl⟩
 have ab:gD = [(O:Int),(S:Int)]:=aa.trans (by rw [<- E];rfl);subst ab;have z:=c_N k2 k0 k1;have zw:wd<=4096:=by omega
 have b1:biA [(O:Int),(S:Int)] gX [(O:Int),(R:Int),(wd:Int)] bX st L:=⟨hg.1,hb.1,I.2.2,by omega,by omega⟩
 have b2:biA [(O:Int),(S:Int)] gX [(R:Int),(L:Int)] aX st wd:=⟨hg.1,M.1,I.2.2,by omega,by omega⟩
 refine ⟨⟨(i_O b1 hw E).1.trans (if_pos M.1.1),(i_P b2 hw E).1.trans (if_pos hb.1.1)⟩,rfl,rfl⟩
/-- Op 11, 13, 14, 7, 8: what a node of that kind says of the one that it is of. -/
theorem m_L {k:Int} {a g:Ten} (I:b_b a) (D:g_6 k a.1 a.2=0) (J:b_b g) (H:g.1=k_O k a.1 a.2):q_L k a.1 a.2 g.1 g.2=0:=by
 have E:(1<=k/\k<=5)/\isP a.1 a.2:=by
  unfold g_6 at D;by_cases h:(1<=k/\k<=5)/\isP a.1 a.2
  ·exact h
  ·rw [if_neg h] at D;cases D
 have e:g.1=a.1:=H.trans (if_pos E);exact (if_pos ⟨E.1,I.1,J.1⟩).trans (if_pos e.symm)
theorem q_S {a g:Ten} (I:b_b a) (D:j_J a.1 a.2 [(a.2.length:Int)]=0) (J:b_b g) (M:g.1=j_K a.1 a.2 [(a.2.length:Int)]):j_J g.1 g.2 a.1=0:=by
 have E:(isP a.1 a.2/\goodN (ntl [(a.2.length:Int)]))/\a_e (ntl [(a.2.length:Int)])=a.2.length:=by
  unfold j_J at D;by_cases h:isP a.1 a.2/\goodN (ntl [(a.2.length:Int)])
  ·rw [if_pos h] at D;by_cases H:a_e (ntl [(a.2.length:Int)])=a.2.length
   ·exact ⟨h,H⟩
   ·rw [if_neg H] at D;cases D
  ·rw [if_neg h] at D;cases D
 have e:g.1 = [(a.2.length:Int)]:=M.trans (if_pos E);have L:g.2.length=a.2.length:=by rw [J.1.2,e];exact E.2
 exact (if_pos ⟨J.1,I.1.1⟩).trans (if_pos (by rw [L];exact I.1.2.symm))
/-- Op 8: a side of one spreads over the whole. -/
theorem e_i:∀ (d:List Nat) (s:Nat),s < d.length->a_e (d.set s 1)=a_e (b_m d s)
 | b :: bs,0,_=>by simp [b_m,a_e]
 | b :: bs,s+1,h=>by
  have D:=e_i bs s (by simpa using h);show b*a_e (bs.set s 1)=b*a_e (b_m bs s);rw [D]
 | [],s,h=>by simp at h
theorem m_M {d:List Nat} (D:goodN d) (s:Nat) (h:s < d.length):goodN (d.set s 1):=by
 refine ⟨by rw [List.length_set];exact D.1,fun x E=>?_,?_⟩
 ·rcases List.mem_or_eq_of_mem_set E with h|h
  ·exact D.2.1 x h
  ·omega
 ·rw [e_i d s h];exact (d_e D s h).2.2
theorem k_c (d:List Nat) (s i:Nat) (h:s < d.length) (E:1<=i):a_T (d.set s 1) i=if i=d.length - s then 1 else a_T d i:=by
 unfold a_T;rw [List.length_set];by_cases D:i<=d.length
 ·rw [if_pos D,if_pos D,List.getD_eq_getElem?_getD,List.getD_eq_getElem?_getD,List.getElem?_set];by_cases e:i=d.length - s
  ·rw [if_pos e,if_pos (by omega),if_pos (by omega)];rfl
  ·rw [if_neg e,if_neg (by omega)]
 ·rw [if_neg D,if_neg D]
  split <;> rfl
theorem m_N {d:List Nat} (E:goodN d) (s:Nat) (h:s < d.length):b_2 (d.set s 1) d/\joinN (d.set s 1) d=d:=by
 constructor
 ·intro i D _;rw [k_c d s i h D]
  split
  ·exact .inr (.inl rfl)
  ·exact .inl rfl
 ·refine e_S (by rw [a_6,List.length_set,Nat.max_self]) fun i D _=>?_;rw [b_q _ _ _ D,k_c d s i h D];have:=c_A E.2.1 i
  split <;> omega
theorem o_G (d:List Nat) (a:Nat) (h:∀ x,x∈d->1<=x) (D:a < a_e d):frN d d a=a:=by
 rw [<- l_n d d a rfl,f_d (c_n d a h D),d_q d a h D]
theorem m_O (q T Q r:Nat) (D:0 < Q):(q*(T*Q)+r) / Q=q*T+r / Q:=by
 rw [<- Nat.mul_assoc,Nat.add_comm,Nat.add_mul_div_right _ _ D,Nat.add_comm]
theorem m_P:∀ (d:List Nat) (s i:Nat),(∀ x,x∈d->1<=x)->s < d.length->i < a_e d->frN (d.set s 1) d i=i / (d.getD s 0*a_e (d.drop (s+1)))*a_e (d.drop (s+1))+i % a_e (d.drop (s+1))
 | [],s,i,_,h,_=>by simp at h
 | b :: bs,0,i,hp,_,hi=>by
  have J:1<=a_e bs:=a_A fun y I=>hp y (List.mem_cons_of_mem _ I);have D:i < b*a_e bs:=hi;show (if 1=1 then 0 else i / a_e bs)*a_e bs+frN bs bs (i % a_e bs)=i / (b*a_e bs)*a_e bs+i % a_e bs;rw [if_pos rfl,o_G bs _ (fun y I=>hp y (List.mem_cons_of_mem _ I)) (Nat.mod_lt _ J),Nat.div_eq_of_lt D]
 | b :: bs,s+1,i,hp,hs,hi=>by
  have H:∀ y,y∈bs->1<=y:=fun y I=>hp y (List.mem_cons_of_mem _ I);have J:1<=a_e bs:=a_A H;have E:s < bs.length:=by simpa using hs
  have ih:=m_P bs s (i % a_e bs) H E (Nat.mod_lt _ J);have D:i < b*a_e bs:=hi
  have V:(if b=1 then 0 else i / a_e bs)=i / a_e bs:=by
   by_cases hb:b=1
   ·rw [if_pos hb];subst hb;rw [Nat.one_mul] at D;exact (Nat.div_eq_of_lt D).symm
   ·rw [if_neg hb]
  show (if b=1 then 0 else i / a_e bs)*a_e (bs.set s 1)+frN (bs.set s 1) bs (i % a_e bs)=i / (bs.getD s 0*a_e (bs.drop (s+1)))*a_e (bs.drop (s+1))+i % a_e (bs.drop (s+1));rw [V,ih,e_i bs s E];have O:a_e (b_m bs s)=a_e (bs.take s)*a_e (bs.drop (s+1)):=by rw [b_m,a_D]
  have L:a_e bs=a_e (bs.take s)*(bs.getD s 0*a_e (bs.drop (s+1))):=by
   rw [<- d_A bs s E,O,Nat.mul_assoc,Nat.mul_comm (a_e (bs.drop (s+1)))]
  rw [O];generalize a_e (bs.take s)=T at *;generalize a_e (bs.drop (s+1))=P at *;generalize bs.getD s 0=c at *;generalize a_e bs=M at *
  have hQ:0 < c*P:=by
   rcases Nat.eq_zero_or_pos (c*P) with h|h
   ·rw [h,Nat.mul_zero] at L;omega
   ·exact h
  have R:i % M % P=i % P:=Nat.mod_mod_of_dvd i ⟨T*c,by rw [L,<- Nat.mul_assoc,Nat.mul_comm]⟩
  have U:i / (c*P)=i / M*T+i % M / (c*P):=by
   have:=m_O (i / M) T (c*P) (i % M) hQ;rw [<- L,Nat.mul_comm (i / M) M,Nat.div_add_mod] at this;exact this
  rw [R,U,Nat.add_mul,Nat.mul_assoc,Nat.add_assoc]
/-- What a gradient of a sum along a side is spread by. -/
theorem o_H {a g:Ten} {k:Int} (ha:b_b a) (hE:smE a.1 a.2 k=0) (L:b_b g) (eg:g.1=smD a.1 a.2 k):
  ∃ s:Nat,k=(s:Int)/\s < a.1.length/\(j_J g.1 g.2 (a.1.set s 1)=0/\j_K g.1 g.2 (a.1.set s 1)=a.1.set s 1/\l_d g.1 g.2 (a.1.set s 1)=g.2)/\c_u (a.1.set s 1) g.2
   /\ b_C (a.1.set s 1) g.2 a.1 (List.replicate (a_e (ntl a.1)) 0)=0/\b_J (a.1.set s 1) g.2 a.1 (List.replicate (a_e (ntl a.1)) 0)=a.1/\b_Z (fun a b=>Fx.hold (a+b)) (a.1.set s 1) g.2 a.1 (List.replicate (a_e (ntl a.1)) 0)=q_O (ntl a.1) k.toNat g.2:=by
 have hp:smP a.1 a.2 k:=by
  unfold smE at hE;by_cases h:smP a.1 a.2 k
  ·exact h
  ·rw [if_neg h] at hE;cases hE
 have M:=eg.trans (if_pos hp);obtain ⟨aD,aX⟩:=a;obtain ⟨gD,D⟩:=g;obtain ⟨A,H,rfl⟩:=b_n ha.1.1;have h1:0<=k:=hp.2.1;have h2:k < ((itl A).length:Int):=hp.2.2;obtain ⟨s,rfl⟩:∃ s:Nat,k=(s:Int):=⟨k.toNat,by omega⟩
 rw [a_v] at h2;have I:s < A.length:=by omega
 have aa:gD=itl (b_m A s):=by rw [a_p] at M;exact M
 subst aa
 have J:D.length=a_e (A.set s 1):=by
  have:=L.1.2;rw [a_p] at this;rw [this,e_i A s I]
 have O:(itl A).set s 1=itl (A.set s 1):=by
  unfold itl;rw [List.map_set];rfl
 have gT:=m_M H s I;have R:isP (itl (A.set s 1)) D:=f_I gT J;have U:(isP (itl (b_m A s)) D/\goodN (ntl (itl (A.set s 1))))/\a_e (ntl (itl (A.set s 1)))=D.length:=⟨⟨L.1,by rw [a_p];exact gT⟩,by rw [a_p,J]⟩
 obtain ⟨hf,hj⟩:=m_N H s I;obtain ⟨p1,p2⟩:=b_u gT H hf (by rw [hj];exact H);rw [hj] at p1
 have V:isP (itl A) (List.replicate (a_e (ntl (itl A))) 0):=by
  rw [a_p];exact f_I H (by simp)
 refine ⟨s,rfl,by rw [a_v];exact I,?_⟩;show (j_J _ _ ((itl A).set s 1)=0/\j_K _ _ ((itl A).set s 1)=(itl A).set s 1/\l_d _ _ ((itl A).set s 1)=D)/\c_u ((itl A).set s 1) D/\b_C ((itl A).set s 1) D (itl A) (List.replicate (a_e (ntl (itl A))) 0)=0/\b_J ((itl A).set s 1) D (itl A) (List.replicate (a_e (ntl (itl A))) 0)=itl A/\b_Z _ ((itl A).set s 1) D (itl A) (List.replicate (a_e (ntl (itl A))) 0)=q_O (ntl (itl A)) ((s:Int).toNat) D;rw [O];refine ⟨⟨(if_pos U.1).trans (if_pos U.2),if_pos U,if_pos U⟩,f_0 R L.2.2,(if_pos ⟨R,V⟩).trans p2,(if_pos ⟨R,V⟩).trans p1,(if_pos ⟨⟨R,V⟩,p2⟩).trans ?_⟩;rw [p1];simp only [a_p];unfold q_O;refine List.map_congr_left fun i hi=>?_;have E:=List.mem_range.1 hi
 have hz:(List.replicate (a_e A) (0:Int)).getD (b_U A A i) 0=0:=by
  rw [l_A H i E,List.getD_eq_getElem?_getD,List.getElem?_replicate,if_pos E];rfl
 rw [hz,Int.add_zero,Fx.hold_in (d_h L.2.2 _).1 (d_h L.2.2 _).2];have hl:(A.set s 1).length=A.length:=List.length_set;rw [j_p _ _ _ (by rw [hl];exact Nat.le_refl _),l_k,hl,Nat.sub_self,List.replicate_zero,List.nil_append,m_P A s i H.2.1 I E];rfl
/-- Op 10: a number and noughts. -/
theorem m_Q (v:Int) (n:Nat) (h:1<=n):b_v ((List.replicate n 0).set 0 v)=v:=by
 unfold b_v;rw [List.length_set,List.length_replicate]
 have D:∀ m,m+1<=n->b_k (fun k=>((List.replicate n 0).set 0 v).getD k 0) (m+1)=v:=by
  intro m
  induction m with
  | zero=>
   intro _;rw [b_k,b_k];obtain ⟨q,rfl⟩:∃ q,n=q+1:=⟨n - 1,by omega⟩
   simp [List.replicate_succ]
  | succ m ih=>
   intro E;rw [b_k,ih (by omega),List.getD_eq_getElem?_getD,List.getElem?_set,if_neg (by omega),List.getElem?_replicate,if_pos (by omega)];simp
 obtain ⟨q,rfl⟩:∃ q,n=q+1:=⟨n - 1,by omega⟩
 exact D q (Nat.le_refl _)
theorem o_I (v:Int) (n:Nat) (h:1<=n):i_C ((List.replicate n 0).set 0 v)=Fx.hold (rqI v (n:Int)):=by
 unfold i_C;rw [m_Q v n h,List.length_set,List.length_replicate]
/-- Op 13: places. -/
theorem q_T {a g:Ten} {k:Int} (I:b_b a) (E:plE a.1 a.2 k=0) (hg:b_b g) (eg:g.1=plD a.1 a.2 k):
  (plP a.1 a.2 k).length=g.2.length/\(∀ i,i < (plP a.1 a.2 k).length->0<=(plP a.1 a.2 k).getD i 0/\(plP a.1 a.2 k).getD i 0 < (a_e (ntl a.1):Int))/\RI (plP a.1 a.2 k):=by
 have M:isP a.1 a.2/\a.1.length=2/\plW a.1 k:=by
  unfold plE at E;rw [if_pos I.1] at E;by_cases h:a.1.length=2
  ·rw [if_pos h] at E;by_cases O:plW a.1 k
   ·exact ⟨I.1,h,O⟩
   ·rw [if_neg O] at E;cases E
  ·rw [if_neg h] at E;cases E
 have U:=eg.trans (if_pos M);have eP:plP a.1 a.2 k=e_B (a.1.getD 0 0).toNat (a.1.getD 1 0).toNat ((a.1.getD 1 0).toNat / k.toNat) k.toNat a.2:=if_pos M;obtain ⟨aD,D⟩:=a;obtain ⟨gD,gX⟩:=g;obtain ⟨R,L,rfl,ab,k0,k1,k2⟩:=a_W I.1 M.2.1;have hw:=M.2.2;obtain ⟨wd,rfl⟩:∃ q:Nat,k=q:=⟨k.toNat,by have:=hw.1;omega⟩
 have h1:1<=wd:=by have:=hw.1;omega
 have O:wd<=L:=by have:=hw.2;simp at this;omega
 have V:plP [(R:Int),(L:Int)] D wd=e_B R L (L / wd) wd D:=eP;have aa:gD = [(R:Int),((L / wd:Nat):Int)]:=U;subst aa;have hn:L / wd*wd<=L:=Nat.div_mul_le_self L wd;have hl:(e_B R L (L / wd) wd D).length=R*(L / wd):=by simp [e_B]
 have H:a_e (ntl [(R:Int),(L:Int)])=R*L:=c_o R L;show (plP [(R:Int),(L:Int)] D wd).length=gX.length/\(∀ i,i < (plP [(R:Int),(L:Int)] D wd).length->0<=(plP [(R:Int),(L:Int)] D wd).getD i 0/\(plP [(R:Int),(L:Int)] D wd).getD i 0 < (a_e (ntl [(R:Int),(L:Int)]):Int))/\RI (plP [(R:Int),(L:Int)] D wd);rw [V,H]
 have hb:∀ i,i < R*(L / wd)->0<=(e_B R L (L / wd) wd D).getD i 0/\(e_B R L (L / wd) wd D).getD i 0 < ((R*L:Nat):Int):=fun i J=>by
  rw [j_Z _ _ _ _ _ _ J];have:=(i_K (l:=L) D J h1 hn).2;omega
 refine ⟨?_,fun i J=>hb i (by rw [<- hl];exact J),?_⟩
 ·rw [hl,hg.1.2];exact (c_o R (L / wd)).symm
 ·have ac:R*L<=4096:=by
   have h:=I.1.1.2.2;have e:a_e (ntl [(R:Int),(L:Int)])=R*L:=H;have h':a_e (ntl [(R:Int),(L:Int)])<=4096:=h;rw [e] at h';exact h'
  unfold e_B;refine c_C fun q hq=>?_;have:=(i_K (l:=L) D (List.mem_range.1 hq) h1 hn).2;unfold InR;omega
/-- What a node says of the two that it is of. -/
theorem OkP.of {ns:List Nd} (L:NodesG ns) (V:NodesV ns) {i:Nat} {nd:Nd} (J:ns[i]?=some nd) (h1:nd.op≠1) {g:Ten} (hg:b_b g) (M:g.1=nd.D):OkP nd.op nd.k (aOf ns nd) (bOf ns nd) g/\(2<=nd.op/\nd.op<=14)/\(0<=nd.a/\nd.a < (i:Int))/\(d_D nd.op->0<=nd.b/\nd.b < (i:Int))/\(¬ d_D nd.op->nd.b = -1):=by
 have hl:i < ns.length:=(List.getElem?_eq_some_iff.1 J).1;rcases V i nd J with h|⟨U,I,hb,H,O,R⟩
 ·exact absurd h.1 h1
 refine ⟨⟨L.at I.1 (by omega),hg,fun E=>?_,O,M.trans R⟩,U,I,hb,H⟩;have:=hb E;show c_u (dD ns nd.op nd.b) (dX ns nd.op nd.b);unfold dD dX;rw [if_pos E,if_pos E];exact L.at this.1 (by omega)
theorem e_j (p p2 p3:Option Addr) (n c M c2 n3 c3:Nat) (d x d':List Int) (hd:RI d) (hx:RI x) (ae:RI d') (L:c_3 d x d'=0) (w:World) (h1:Nums .i64 w (.slice p n c) d) (h2:Nums .i64 w (.slice p2 M c2) x) (h3:Nums .i64 w (.slice p3 n3 c3) d'):
  Calls Tryz.prog 92 #[.agg #[.slice p n c,.slice p2 M c2],.slice p3 n3 c3] w fun e w'=>∃ v',e = .returned (.tuple #[v',.int .i64 (c_3 d x d')])/\TRes w' w.heap.size v' (i_e d x d') (i_f d x d')/\Below w.heap.size w w':=by
 have cA:=fun W (O:Below w.heap.size w W)=>a_B _ _ d x hd W (h1.up O) (h2.up O);have cB:=fun W (O:Below w.heap.size w W)=>b_3 _ d' ae W (h3.up O);have cZ:=fun W (O:Below w.heap.size w W)=>size_any _ d' ae W (h3.up O);have cJ:=fun W (O:Below w.heap.size w W)=>g_E _ _ d' d ae hd W (h3.up O) (h1.up O);have cS:∀ W v',Below w.heap.size w W->Nums .i64 W v' (b_W d' d)->Calls Tryz.prog 121 #[v',.slice p n c] W fun e w'=>e = .returned (.bool (decide (b_W d' d=d)))/\∃ m,w'=W.drewN m:=fun W v' O hv=>n_O _ _ _ d (by have:=l_u d' d;omega) W hv (h1.up O);have HN:Hid (Nums .i64 w (.slice p n c) d/\Nums .i64 w (.slice p2 M c2) x/\Nums .i64 w (.slice p3 n3 c3) d'):=⟨h1,h2,h3⟩
 obtain ⟨_,_,_,e4,HX⟩:=h2.lst;cases e4;by_cases hp:isP d x
 ·rw [decide_eq_true hp] at cA;by_cases J:goodN (ntl d')
  ·rw [decide_eq_true J] at cB;rw [b_6 J] at cZ;by_cases hf:b_x d' d=0/\b_W d' d=d
   ·obtain ⟨a,b,hU⟩:=q_K ⟨⟨hp,J⟩,hf⟩;obtain ⟨e1,e2,e3⟩:=hU.V ⟨⟨hp,J⟩,hf⟩;clear L;rw [e1,e2,e3];rw [decide_eq_true hf.2] at cS;rw [hf.1] at cJ;rw [hf.2] at cJ cS;rw [hU.db,a_p] at cZ;obtain ⟨S,eS⟩:∃ S,a_e b=S:=⟨_,rfl⟩
    obtain ⟨N,eN⟩:∃ N,a_e a=N:=⟨_,rfl⟩
    obtain ⟨D,eD⟩:∃ D,itl b=D:=⟨_,rfl⟩
    obtain ⟨V,eV⟩:∃ V,c_8 (fun a b=>Fx.hold (a+b)) (b_U b a) (fun i=>x.getD i 0) S N=V:=⟨_,rfl⟩
    have aO:M=N:=by rw [<- HX.out.1,hU.lx,eN]
    subst aO;have E:Hid (Under d x d' a b/\a_e b=S/\a_e a=M/\itl b=D/\RI x/\c_8 (fun a b=>Fx.hold (a+b)) (b_U b a) (fun i=>x.getD i 0) S M=V):=⟨hU,eS,eN,eD,hx,eV⟩
    have hS:1<=S/\S<=4096:=by rw [<- eS];exact ⟨hU.gb.pos,hU.gb.2.2⟩
    have aT:1<=(S:Int)/\(S:Int)<=4096:=by omega
    have hN:1<=M/\M<=4096:=by rw [<- eN];exact ⟨hU.ga.pos,hU.ga.2.2⟩
    have aU:1<=(M:Int)/\(M:Int)<=4096:=by omega
    rw [eS] at cZ ⊢;rw [eN,eD,eV];clear e1 e2 e3 hp J hf h1 h2 h3 hd hx ae eS eN eD eV hU;go_enter Tryz.func92,Tryz.ntmps92;go_wp2_with fail
    generalize af:World.alloc _ _=W0;have au:=b_1 (w:=w) af (by go_grown);have XA:Hid (Cel W0 w.heap.size (.slice p n c) (.slice p2 M c2)):=a_F af (by simp [go_sem]);have XR:Hid (Cel W0 (w.heap.size+1) (.slice none 0 0) (.slice none 0 0)):=a_F af (by simp [go_sem]);clear af;refine (cA W0 au.out).mono ?_;rintro e w1 ⟨rfl,ao⟩;have R:=a_N (a_c au.out ao) ao;clear ao;go_wp2_with fail
    refine (cB w1 R.out.1).mono ?_;rintro e w2 ⟨rfl,rfl⟩;clear cA cB;obtain ⟨a0,a1,_,_⟩:=XA.out.up R.out.2;go_wp2_with fail
    refine (cJ w2 R.out.1).mono ?_;rintro e w3 ⟨vj,rfl,aG,ap⟩;have ag:=a_N (a_c R.out.1 ap) (a_c R.out.2 ap);have cs:=cS w3 vj ag.out.1 aG.nums;clear ap aG a0 a1 cS cJ;obtain ⟨a0,a1,_,_⟩:=XA.out.up ag.out.2;go_wp2_with fail
    refine cs.mono ?_;rintro e w4 ⟨rfl,m,ay⟩;have H:Hid (Below w.heap.size w w4/\Below W0.heap.size W0 w4):=by rw [ay];exact ⟨a_m ag.out.1 m,a_m ag.out.2 m⟩
    clear cs a0 a1 ay;go_wp2_with fail
    refine (cZ w4 H.out.1).mono ?_;rintro e w5 ⟨rfl,rfl⟩;clear cZ;obtain ⟨a0,a1,_,_⟩:=XA.out.up H.out.2;go_wp2_with (at_make;refine a_y k_C (by decide) _ rfl (.tmp 38) (.tmp 38) rfl .i64 .i64 S S S rfl rfl rfl rfl (by omega) w.heap.size w H.out.1.size H.out.1 ?_;intro w6 ad B6 aM;clear aM;have aN:=(XA.out.up (a_c H.out.2 B6));obtain ⟨a2,a3,_,_⟩:=aN)
    obtain ⟨g,J⟩:∃ g,w5.heap.size=g:=⟨_,rfl⟩
    have aj:=a_N (a_c H.out.1 B6) (a_c H.out.2 B6);rw [J] at ad ⊢;have hz:=a_a XR.out.1;have Hg:Hid (W0.heap.size<=g/\w.heap.size+1 < W0.heap.size/\g < w6.heap.size):=⟨by rw [<- J];exact H.out.2.size,hz,ad.out.size⟩
    have aJ:=e_v _ _ b a E.out.1.gb E.out.1.ga (g_D E.out.1.jb) w6 (by rw [<- E.out.1.db];exact HN.out.2.2.up aj.out.1) (by rw [<- E.out.1.da];exact HN.out.1.up aj.out.1);refine aJ.mono ?_;rintro e w7 ⟨vs,rfl,h7,ai⟩;obtain ⟨ps,ns,cs,rfl,aI⟩:=h7.nums.lst;obtain rfl:ns=M:=by rw [<- aI.out.1,a_v,d_Q,E.out.2.2.1]
    have aD:Hid (OwnK .i64 3 w7 w6.heap.size (.slice ps ns cs) (itl (b_X b a))):=h7;have aq:=a_N (a_c aj.out.1 ai) (a_c aj.out.2 ai);have aQ:Hid (OwnK .i64 48 w7 g (.slice (some ⟨g,0,none⟩) S S) (c_8 (fun a b=>Fx.hold (a+b)) (b_U b a) (fun i=>x.getD i 0) S 0)):=ad.out.up ai;have az:Hid (Cel w7 w.heap.size (.slice p n c) (.slice p2 ns c2)/\Cel w7 (w.heap.size+1) (.slice none 0 0) (.slice none 0 0)):=⟨XA.out.up aq.out.2,XR.out.up aq.out.2⟩
    clear aJ h7 ai aI a0 a1 a2 a3 ad B6 J hz;go_wp2_with fail
    go_loopg [45] ns (fun gg i wr=>∃ (k:Nat),k<=ns/\gg=ns - k/\i = .int .i64 (k:Int)/\Hid (OwnK .i64 48 wr g (.slice (some ⟨g,0,none⟩) S S) (c_8 (fun a b=>Fx.hold (a+b)) (b_U b a) (fun i=>x.getD i 0) S k))/\Hid (Below w.heap.size w wr/\Stay g w7 wr))
    case atStart=>exact ⟨0,by omega,by omega,by first|rfl|simp,aQ,aq.out.1,Stay.refl _ _⟩
    case round=>
     obtain ⟨k,hk,J,rfl,ab,I⟩:=hrel;obtain ⟨R1,aL⟩:∃ R1:World,R1=wr:=⟨_,rfl⟩
     subst aL;by_cases ac:k < ns
     ·have aS:(k:Int) < (ns:Int):=by omega
      obtain ⟨_,_,_,e4,aA⟩:=(aD.out.nums.stay I.out.2 (aD.out.off Hg.out.2.2)).lst;cases e4;obtain ⟨qa,oa,rfl,an⟩:=aA.out.2 k ac;have aw:k < a_e a:=by rw [E.out.2.2.1];exact ac
      rw [a_O,f_p E.out.1.gb E.out.1.ga E.out.1.fb E.out.1.jb k aw] at an;have ia:=g_C E.out.1.gb.2.1 E.out.1.ga.2.1 E.out.1.fb E.out.1.jb k aw;obtain ⟨i,ei⟩:∃ i,b_U b a k=i:=⟨_,rfl⟩
      rw [ei] at an ia;rw [E.out.2.1] at ia;have aR:(i:Int) < (S:Int):=by omega
      obtain ⟨qx,ox,rfl,aH⟩:=HX.out.2 k ac;have ax:=a_d aH I.out.1;have rx:=E.out.2.2.2.2.1.in k (by rw [HX.out.1];exact ac);obtain ⟨X,eX⟩:∃ X,x.getD k 0=X:=⟨_,rfl⟩
      rw [eX] at ax rx;obtain ⟨FK,aa⟩:∃ FK,c_8 (fun a b=>Fx.hold (a+b)) (b_U b a) (fun i=>x.getD i 0) S k=FK:=⟨_,rfl⟩
      have aF:FK.length=S:=by rw [<- aa,f_n]
      have ry:Fx.InR (FK.getD i 0):=by
       have aC:FK.getD i 0∈FK:=by
        rw [a_r FK i 0 (by omega)];exact List.getElem_mem _
       exact j_8 k _ (by rw [aa];exact aC)
      obtain ⟨Y,eY⟩:∃ Y,FK.getD i 0=Y:=⟨_,rfl⟩
      rw [aa] at ab;obtain ⟨U,aE⟩:=ab.out.cell aF i ia;rw [eY] at U ry;obtain ⟨Z,eZ⟩:∃ Z,Fx.hold (Y+X)=Z:=⟨_,rfl⟩
      have HZ:Hid (c_8 (fun a b=>Fx.hold (a+b)) (b_U b a) (fun i=>x.getD i 0) S (k+1)=FK.set i Z/\FK.length=S):=⟨by rw [c_8,aa,ei,eY,eX,eZ],aF⟩
      have cz:∀ W,Calls Tryz.prog 107 #[.int .i64 Y,.int .i64 X] W fun e w'=>e = .returned (.int .i64 Z)/\w'=W:=fun W=>by rw [<- eZ];exact Fx.add_any Y X ry rx W
      have am:w.heap.size≠g:=by have:=Hg.out;omega
      obtain ⟨a0,a1,_,_⟩:=az.out.1.stay I.out.2 am;have z0:=a_a a0;have z2:=a_a an;have z4:=a_a ax;have z6:=ab.out.size;clear eX eY eZ ei aa aA am aw aH rx ry;go_wp2_with fail
      refine j_B 13 68 (by kernel_rfl) rfl rfl (by kernel_rfl) ?_;apply Exists.intro;refine ⟨?_,?_⟩
      ·intro F hF;have hFc:=hF.cell;have hFf:=hF.frozen;simp only [List.take_succ_cons,List.take_zero,List.eraseIdx_cons_succ,List.eraseIdx_cons_zero]
       repeat (go_big_quiet_step (exact hF.same (cz _)))
       refine wpQuiet_nil ?_;exact rfl
      ·intro W1 ah;simp only [List.drop_succ_cons,List.drop_zero];have ar:=ab.out.up ah;clear U aE;obtain ⟨U,aE⟩:=ar.cell HZ.out.2 i ia
       have H5:Hid (OwnK .i64 48 (W1.setCell ⟨g,i,none⟩ (.int .i64 Z)) g (.slice (some ⟨g,0,none⟩) S S) (c_8 (fun a b=>Fx.hold (a+b)) (b_U b a) (fun i=>x.getD i 0) S (k+1))):=by
        have:=ar.store HZ.out.2 i Z;rw [HZ.out.1];exact this
       have aP:w.heap.size<=g:=by have:=Hg.out;omega
       have H6:Hid (Below w.heap.size w (W1.setCell ⟨g,i,none⟩ (.int .i64 Z))/\Stay g w7 (W1.setCell ⟨g,i,none⟩ (.int .i64 Z))):=⟨(a_c I.out.1 ah).setCell (p:=⟨g,i,none⟩) aP _,(I.out.2.up ah).set _ _⟩
       clear ar ah cz z0 z2 z4 z6 a0 a1;go_wp2;go_roundg (ns - (k+1))
       case measure=>omega
       case rel=>exact ⟨k+1,by omega,rfl,by first|rfl|simp,H5,H6⟩
     ·obtain rfl:k=ns:=by omega
      have ak:w.heap.size+1≠g:=by have:=Hg.out;omega
      have aK:Hid (Cel R1 (w.heap.size+1) (.slice none 0 0) (.slice none 0 0)):=az.out.2.stay I.out.2 ak
      have aB:Hid (OwnK .i64 48 R1 g (.slice (some ⟨g,0,none⟩) S S) V):=by
       have:=ab.out;rw [E.out.2.2.2.2.2] at this;exact this
      have cc:=b_j _ d' (by rw [E.out.1.db,a_v];have:=E.out.1.gb.1;omega) R1 (HN.out.2.2.up I.out.1);rw [E.out.1.db,E.out.2.2.2.1] at cc;clear ak;go_wp2_with fail
      refine cc.mono ?_;rintro e w8 ⟨v8,rfl,h8,av⟩;obtain ⟨p8,n8,c8,rfl,_⟩:=h8.nums.lst
      have HF:Hid (TRes (set2 w8 (w.heap.size+1) (.slice p8 n8 c8) (.slice (some ⟨g,0,none⟩) S S)) w.heap.size (.agg #[.slice p8 n8 c8,.slice (some ⟨g,0,none⟩) S S]) D V/\Below w.heap.size w (set2 w8 (w.heap.size+1) (.slice p8 n8 c8) (.slice (some ⟨g,0,none⟩) S S))):=by
       have hs:g<=R1.heap.size:=Nat.le_of_lt aB.out.size;exact ⟨(TRes.set (h8.low (Nat.le_trans Hg.out.1 hs)) ((aB.out.up av).low Hg.out.1) Hg.out.2.1).low au.out.size,a_j (a_c I.out.1 av) _ (by omega) _ _⟩
      clear cc h8;have xr:=(aK.out.up av)
      have cf:=xr.set (.slice p8 n8 c8) (.slice (some ⟨g,0,none⟩) S S);obtain ⟨r0,r1,r2,r3⟩:=xr;obtain ⟨y0,y1,_,_⟩:=cf;go_wp2;exact bodyPost_ret (v:=.tuple #[.agg #[.slice p8 n8 c8,.slice (some ⟨g,0,none⟩) S S],.int .i64 0]) (by simp [results,Tryz.results92,go_sem,y0,y1]) rfl ⟨_,rfl,HF.out⟩
   ·have e1:c_3 d x d'=4:=by unfold c_3;rw [if_pos ⟨hp,J⟩,if_neg hf]
    have e2:i_e d x d' = []:=if_neg fun h=>hf h.2;have e3:i_f d x d' = []:=if_neg fun h=>hf h.2;rw [e1] at L;cases L
  ·rw [decide_eq_false J] at cB;have e1:c_3 d x d'=1:=if_neg fun h=>J h.2;have e2:i_e d x d' = []:=if_neg fun h=>J h.1.2;have e3:i_f d x d' = []:=if_neg fun h=>J h.1.2;rw [e1] at L;cases L
 ·rw [decide_eq_false hp] at cA;have e1:c_3 d x d'=1:=if_neg fun h=>hp h.1;have e2:i_e d x d' = []:=if_neg fun h=>hp h.1.1;have e3:i_f d x d' = []:=if_neg fun h=>hp h.1.1;rw [e1] at L;cases L
end Go.Proofs.YtcpbhhlepdgdkaaGreatDoor.Wd
