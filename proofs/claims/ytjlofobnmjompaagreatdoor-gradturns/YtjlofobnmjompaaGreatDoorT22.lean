/- A row of tensors that a call hands back: how it lies in memory. · The code's At and Value. · The code's give: what a gradient of a node gives for its two. · Losses on a tape that is swept back: its nodes may be, what their Ops give is known. · Nets: what chapter 12 says of shapes and of parameters, over lists. Nothing of the program is named here. -/
import Derived.Test.YtjlofobnmjompaaGreatDoorT19
import Derived.Test.YtjlofobnmjompaaGreatDoorT17
import Derived.Test.YtjlofobnmjompaaGreatDoorT21
import Derived.WalkKit
set_option linter.unusedVariables false
set_option linter.unusedSimpArgs false
set_option maxHeartbeats 16000000
set_option maxRecDepth 16000
namespace Go.Proofs.YtjlofobnmjompaaGreatDoor.Wd
open Go.RowKit Fx
/-- A tensor's two cells. -/
def TwC (W:World) (B:Nat) (t:Ten) (u:List Value):Prop:=∃ s v,u = [s,v]/\OwnK .i64 3 W B s t.1/\OwnK .i64 23 W B v t.2
def TsC (W:World) (B:Nat) (ts:List Ten) (xs:List Value):Prop:=xs.length=ts.length*2/\∀ i t,ts[i]?=some t->TwC W B t ((xs.drop (i*2)).take 2)
/-- A row of tensors of one's own. -/
def OwnTs (W:World) (B:Nat) (v:Value) (ts:List Ten):Prop:=∃ xs,W.ownsRow B 64 2 v ts.length xs/\TsC W B ts xs
theorem TwC.only {S:List TypeId} {W W':World} {B:Nat} {t:Ten} {u:List Value} (h:TwC W B t u) (D:Only S W W') (H:3∉S) (J:23∉S):TwC W' B t u:=by
 obtain ⟨s,v,e,I,L⟩:=h;exact ⟨s,v,e,I.only D H,L.only D J⟩
theorem OwnTs.only {S:List TypeId} {W W':World} {B:Nat} {v:Value} {D:List Ten} (h:OwnTs W B v D) (H:Only S W W') (I:3∉S) (J:23∉S) (U:64∉S):OwnTs W' B v D:=by
 obtain ⟨xs,M,R,L⟩:=h;exact ⟨xs,a_A M H U,R,fun i t O=>(L i t O).only H I J⟩
theorem OwnTs.up {W W':World} {B:Nat} {v:Value} {D:List Ten} (h:OwnTs W B v D) (H:Below W.heap.size W W'):OwnTs W' B v D:=h.only (S:=[]) (Only.of H) (by simp) (by simp) (by simp)
theorem OwnTs.nil (W:World) (B:Nat):OwnTs W B (.slice none 0 0) []:=⟨[],World.ownsRow_nil _ _ _ _,rfl,fun i t h=>by simp at h⟩
theorem OwnTs.low {W:World} {B L:Nat} {v:Value} {J:List Ten} (h:OwnTs W B v J) (D:L<=B):OwnTs W L v J:=by
 obtain ⟨xs,M,hl,O⟩:=h;refine ⟨xs,⟨M.1,?_⟩,hl,fun i t U=>?_⟩
 ·rcases M.2 with hn|⟨g,I,H,R,hb,rest⟩
  ·exact .inl hn
  ·exact .inr ⟨g,I,H,R,Nat.le_trans D hb,rest⟩
 ·obtain ⟨s,u,e,V,hu⟩:=O i t U;exact ⟨s,u,e,V.low D,hu.low D⟩
/-- What a walk reads of it. -/
theorem OwnTs.form {W:World} {B:Nat} {v:Value} {D:List Ten} (h:OwnTs W B v D):∃ p c,v = .slice p D.length c/\D.length<=c:=by
 obtain ⟨xs,L,_⟩:=h;rcases L.2 with ⟨rfl,I⟩|⟨g,M,H,rfl,_,_,J,_⟩
 ·exact ⟨none,0,by rw [I],by omega⟩
 ·exact ⟨_,_,rfl,J⟩
theorem OwnTs.at {W:World} {B n c:Nat} {p:Option Addr} {I:List Ten} (h:OwnTs W B (.slice p n c) I) (i:Nat) (t:Ten) (J:I[i]?=some t):
  ∃ q s u,p=some ⟨q,0,none⟩/\W.cell? ⟨q,i*2,none⟩=some s/\W.cell? ⟨q,i*2+1,none⟩=some u/\OwnK .i64 3 W B s t.1/\OwnK .i64 23 W B u t.2:=by
 obtain ⟨xs,L,hl,V⟩:=h;obtain ⟨s,u,e,O,hu⟩:=V i t J;have M:i < I.length:=(List.getElem?_eq_some_iff.1 J).1
 have H:∀ j v,((xs.drop (i*2)).take 2)[j]?=some v->xs[i*2+j]?=some v:=fun j v h=>by
  rw [List.getElem?_take] at h
  split at h
  ·rw [List.getElem?_drop] at h;exact h
  ·cases h
 rw [e] at H;rcases L.2 with ⟨_,h0⟩|⟨g,R,U,hv,hb,hg,rest⟩
 ·omega
 ·cases hv
  have D:∀ j v,xs[j]?=some v->W.cell? ⟨g,j,none⟩=some v:=fun j v h=>by
   have:=L.cells (g:=g) rfl j v h;rw [a_u,Nat.zero_add] at this;exact this
  exact ⟨g,s,u,rfl,D _ _ (H 0 _ rfl),D _ _ (H 1 _ rfl),O,hu⟩
theorem c_T {w D:World} {B:Nat} (h:Below B w D):Below B w D.drew:=h.trans ⟨rfl,rfl,rfl,Nat.le_refl _,fun _ _=>rfl⟩
theorem t_d {w W:World} {B b H:Nat} {s t J I s0 t0 s1 t1:Value} {D X D' X':List Int} (h6:Cel W b s0 t0) (h7:Cel W H s1 t1) (L:b≠H) (hB:Below w.heap.size w W) (hb:w.heap.size<=b) (ab:w.heap.size<=H) (O:b < B) (M:H < B)
  (hs:OwnK .i64 3 W B s D) (ht:OwnK .i64 23 W B t X) (aa:OwnK .i64 3 W B J D') (V:OwnK .i64 23 W B I X'):
  (Cel (set2 (set2 W b s t) H J I) b s t/\Cel (set2 (set2 W b s t) H J I) H J I)/\TRes (set2 (set2 W b s t) H J I) w.heap.size (.agg #[s,t]) D X/\TRes (set2 (set2 W b s t) H J I) w.heap.size (.agg #[J,I]) D' X'/\Below w.heap.size w (set2 (set2 W b s t) H J I):=by
 have U:=Stay.set2 (g:=b) W s t;have e2:=Stay.set2 (g:=H) (set2 W b s t) J I;have R:∀ {e:TypeId} {v:Value} {l:List Int},OwnK .i64 e W B v l->OwnK .i64 e (set2 (set2 W b s t) H J I) w.heap.size v l:=fun h=>((h.stay U (h.off O)).stay e2 ((h.stay U (h.off O)).off M)).low (by omega);exact ⟨⟨(h6.set s t).stay e2 L,(h7.stay U (Ne.symm L)).set J I⟩,⟨_,_,rfl,R hs,R ht⟩,⟨_,_,rfl,R aa,R V⟩,a_7 (a_7 hB b hb s t) H ab J I⟩
/-- What a return of two tensors leaves. -/
theorem r_4 {w W Z U:World} {B b H:Nat} {s t O M s0 t0 s1 t1:Value} {D X D' X':List Int} (hU:set2 (set2 W b s t) H O M=U) (I:Below U.heap.size U Z) (h6:Cel W b s0 t0) (h7:Cel W H s1 t1) (aa:b≠H) (hB:Below w.heap.size w W) (hb:w.heap.size<=b) (ac:w.heap.size<=H) (ab:b < B) (L:H < B)
  (hs:OwnK .i64 3 W B s D) (ht:OwnK .i64 23 W B t X) (V:OwnK .i64 3 W B O D') (R:OwnK .i64 23 W B M X'):
  Hid (TRes Z w.heap.size (.agg #[s,t]) D X/\TRes Z w.heap.size (.agg #[O,M]) D' X'/\Below w.heap.size w Z)/\(Z.cell? ⟨b,0,none⟩=some s/\Z.cell? ⟨b,1,none⟩=some t)/\Z.cell? ⟨H,0,none⟩=some O/\Z.cell? ⟨H,1,none⟩=some M:=by
 obtain ⟨⟨c6,c7⟩,r6,r7,J⟩:=t_d (w:=w) h6 h7 aa hB hb ac ab L hs ht V R;rw [hU] at c6 c7 r6 r7 J;have d6:=c6.up I;have d7:=c7.up I;exact ⟨⟨r6.up I,r7.up I,a_c J I⟩,⟨d6.1,d6.2.1⟩,d7.1,d7.2.1⟩
theorem t_e {W:World} {b:Nat} {M D L H R O I J:Value} {e:TypeId} (h:W.heap[b]?=some (.cells #[M,D,L,H,R,O] e (0,0))):((W.setCell ⟨b,4,none⟩ I).setCell ⟨b,5,none⟩ J).heap[b]?=some (.cells #[M,D,L,H,I,J] e (0,0)):=by
 rw [a_m (a_m h)];rfl
theorem m_H (B tb:Nat) (ns:List Nd) (hG:NodesG ns) (i:Nat) (nd:Nd) (hi:ns[i]?=some nd) (w:World) (hT:TapC w B tb ns):
  Calls Tryz.prog 47 #[.pointer (some ⟨tb,0,none⟩),.int .i64 (i:Int)] w fun e w'=>∃ s t,e = .returned (.tuple #[.agg #[.int .i64 nd.op,.int .i64 nd.a,.int .i64 nd.b,.int .i64 nd.k,s,t],.bool true])/\OwnK .i64 3 w' w.heap.size s nd.D/\OwnK .i64 23 w' w.heap.size t nd.X/\Below w.heap.size w w':=by
 have ak:Hid (TapC w B tb ns):=hT;obtain ⟨pL,cL,ar,hv,ho,aj,an⟩:=Tap.head hT;obtain ⟨N,eN⟩:∃ N,ns.length=N:=⟨_,rfl⟩
 rw [eN] at hv ho an;have L:=(b_H hv).1;have aq:i < N:=by rw [<- eN];exact (List.getElem?_eq_some_iff.1 hi).1
 obtain ⟨q,au,s_,t_,eq,am,c0,c1,c2,c3,c4,c5,hs,ht⟩:=d_u ho aj eN i aq;rw [hi] at am;cases am;obtain ⟨pA,nA,cA,rfl⟩:=hs.form_;obtain ⟨qA,mA,eA,rfl⟩:=ht.form_;subst eq;have hq:decide (0<=(i:Int)/\(i:Int) < (ns.length:Int))=true:=decide_eq_true (by omega);have HN:Hid (Nums .i64 w (.slice pA nA cA) nd.D/\Nums .i64 w (.slice qA mA eA) nd.X/\isP nd.D nd.X):=⟨hs.nums,ht.nums,(hG nd (f_J hi)).1⟩
 have R:Hid (w.cell? ⟨tb,0,none⟩=some (.slice (some ⟨q,0,none⟩) N cL)/\w.cell? ⟨q,i*6,none⟩=some (.int .i64 nd.op)/\w.cell? ⟨q,i*6+1,none⟩=some (.int .i64 nd.a)/\w.cell? ⟨q,i*6+2,none⟩=some (.int .i64 nd.b)/\w.cell? ⟨q,i*6+3,none⟩=some (.int .i64 nd.k)/\w.cell? ⟨q,i*6+4,none⟩=some (.slice pA nA cA)/\w.cell? ⟨q,i*6+5,none⟩=some (.slice qA mA eA)):=⟨L,c0,c1,c2,c3,c4,c5⟩
 have d2:(i:Int) < (N:Int):=by omega
 obtain ⟨op,a,b,k,D,X⟩:=nd;simp only [] at R HN ⊢;clear hT hv ho aj an hs ht c0 c1 c2 c3 c4 c5 L hG hi;go_enter Tryz.func47,Tryz.ntmps47;go_wp2_with fail
 generalize ab:World.alloc _ _=W0;have O:W0.heap[w.heap.size]?=some (.cells #[.int .i64 0,.int .i64 0,.int .i64 0,.int .i64 0,.slice none 0 0,.slice none 0 0] 109 (0,0)):=by rw [<- ab];exact heap_alloc_new _ _
 have I:Hid (Below w.heap.size w W0):=by show Below _ _ _;rw [<- ab];exact a_b _ _
 clear ab;refine (c_R B tb ns (i:Int) true hq W0 (ak.out.up I.out)).mono ?_;rintro e H ⟨rfl,ap⟩;subst ap;clear hq;have c:=a_d R.out.1 I.out;have c0:=a_d R.out.2.1 I.out;have c1:=a_d R.out.2.2.1 I.out;have c2:=a_d R.out.2.2.2.1 I.out;have c3:=a_d R.out.2.2.2.2.1 I.out;have c4:=a_d R.out.2.2.2.2.2.1 I.out;have c5:=a_d R.out.2.2.2.2.2.2 I.out;have k0:=a_a c;have k1:=a_a c0;go_wp2_with fail
 generalize af:World.alloc _ _=W2;have ah:W2.heap[H.heap.size]?=some (.cells #[.int .i64 op,.int .i64 a,.int .i64 b,.int .i64 k,.slice pA nA cA,.slice qA mA eA] 109 (0,0)):=by rw [<- af];exact heap_alloc_new _ _
 have J:Hid (Below H.heap.size H W2/\Below w.heap.size w W2):=by
  have h:=a_b H (.cells #[.int .i64 op,.int .i64 a,.int .i64 b,.int .i64 k,.slice pA nA cA,.slice qA mA eA] 109);rw [af] at h;exact ⟨h,a_c I.out h⟩
 have ae:W2.heap[w.heap.size]?=some (.cells #[.int .i64 0,.int .i64 0,.int .i64 0,.int .i64 0,.slice none 0 0,.slice none 0 0] 109 (0,0)):=by rw [J.out.1.block _ (a_i O)];exact O
 clear af c c0 c1 c2 c3 c4 c5 k0 k1;refine (f_L pA qA nA cA mA eA D X HN.out.2.2 W2 (HN.out.1.up J.out.2) (HN.out.2.1.up J.out.2)).mono ?_;rintro e w3 ⟨v3,rfl,⟨s3,t3,rfl,hs,ht⟩,aa⟩;obtain ⟨V,na,U,rfl⟩:=hs.form_;obtain ⟨pb,nb,cb,rfl⟩:=ht.form_;have M:w3.heap[H.heap.size]?=some (.cells #[.int .i64 op,.int .i64 a,.int .i64 b,.int .i64 k,.slice pA nA cA,.slice qA mA eA] 109 (0,0)):=by rw [aa.block _ (a_i ah)];exact ah
 have ac:w3.heap[w.heap.size]?=some (.cells #[.int .i64 0,.int .i64 0,.int .i64 0,.int .i64 0,.slice none 0 0,.slice none 0 0] 109 (0,0)):=by rw [aa.block _ (a_i ae)];exact ae
 have HO:Hid (OwnK .i64 3 w3 w.heap.size (.slice V na U) D/\OwnK .i64 23 w3 w.heap.size (.slice pb nb cb) X):=⟨hs.low J.out.2.size,ht.low J.out.2.size⟩
 have ao:Hid (Below w.heap.size w w3):=a_c J.out.2 aa;have ai:w.heap.size < H.heap.size:=a_i O;clear hs ht aa ah ae O HN R d2 ak;have n1:H.heap.size≠w.heap.size:=by omega
 have n2:w.heap.size≠H.heap.size:=by omega
 obtain ⟨⟨x0,x1,x2,x3,x4,x5⟩,xf⟩:=g_m M;obtain ⟨⟨r0,r1,r2,r3,r4,r5⟩,rf⟩:=g_m ac;have k1:=a_i M;have k2:=a_i ac
 have ad:Hid ((((w3.setCell ⟨H.heap.size,4,none⟩ (.slice V na U)).setCell ⟨H.heap.size,5,none⟩ (.slice pb nb cb)).heap[H.heap.size]?=some (.cells #[.int .i64 op,.int .i64 a,.int .i64 b,.int .i64 k,.slice V na U,.slice pb nb cb] 109 (0,0))/\((w3.setCell ⟨H.heap.size,4,none⟩ (.slice V na U)).setCell ⟨H.heap.size,5,none⟩ (.slice pb nb cb)).heap[w.heap.size]?=some (.cells #[.int .i64 0,.int .i64 0,.int .i64 0,.int .i64 0,.slice none 0 0,.slice none 0 0] 109 (0,0)))/\Below w.heap.size w ((w3.setCell ⟨H.heap.size,4,none⟩ (.slice V na U)).setCell ⟨H.heap.size,5,none⟩ (.slice pb nb cb))/\Only [109] w3 ((w3.setCell ⟨H.heap.size,4,none⟩ (.slice V na U)).setCell ⟨H.heap.size,5,none⟩ (.slice pb nb cb))):=by
  refine ⟨⟨t_e M,?_⟩,?_,?_⟩
  ·rw [a_T _ _ _ _ _ (by omega),a_T _ _ _ _ _ (by omega)];exact ac
  ·exact (ao.out.setCell (p:=⟨H.heap.size,4,none⟩) (Nat.le_of_lt ai) _).setCell (p:=⟨H.heap.size,5,none⟩) (Nat.le_of_lt ai) _
  ·exact (Only.set M (by simp)).trans (Only.set (a_m M) (by simp))
 go_wp2;generalize ag:World.setCell _ _ _=W9;have h0:=ad.out.1.2;have h1:=a_m (o:=0) (x:=(.int .i64 op)) h0;have h2:=a_m (o:=1) (x:=(.int .i64 a)) h1;have h3:=a_m (o:=2) (x:=(.int .i64 b)) h2;have h4:=a_m (o:=3) (x:=(.int .i64 k)) h3;have h5:=a_m (o:=4) (x:=(.slice V na U)) h4
 have H9:W9.heap[w.heap.size]?=some (.cells #[.int .i64 op,.int .i64 a,.int .i64 b,.int .i64 k,.slice V na U,.slice pb nb cb] 109 (0,0)):=by
  rw [<- ag];exact (a_m h5).trans rfl
 have B9:Below w.heap.size w W9:=by
  rw [<- ag];exact ((((((ad.out.2.1.setCell (p:=⟨w.heap.size,0,none⟩) (Nat.le_refl _) _).setCell (p:=⟨w.heap.size,1,none⟩) (Nat.le_refl _) _).setCell (p:=⟨w.heap.size,2,none⟩) (Nat.le_refl _) _).setCell (p:=⟨w.heap.size,3,none⟩) (Nat.le_refl _) _).setCell (p:=⟨w.heap.size,4,none⟩) (Nat.le_refl _) _).setCell (p:=⟨w.heap.size,5,none⟩) (Nat.le_refl _) _)
 have O9:Only [109] w3 W9:=by
  rw [<- ag];exact ((((((ad.out.2.2.trans (Only.set h0 (by simp))).trans (Only.set h1 (by simp))).trans (Only.set h2 (by simp))).trans (Only.set h3 (by simp))).trans (Only.set h4 (by simp))).trans (Only.set h5 (by simp)))
 obtain ⟨⟨z0,z1,z2,z3,z4,z5⟩,_⟩:=g_m H9;exact bodyPost_ret (v:=.tuple #[.agg #[.int .i64 op,.int .i64 a,.int .i64 b,.int .i64 k,.slice V na U,.slice pb nb cb],.bool true]) (by simp [results,Tryz.results47,go_sem,z0,z1,z2,z3,z4,z5]) rfl ⟨_,_,rfl,HO.out.1.only O9 (by decide),HO.out.2.only O9 (by decide),B9⟩
theorem m_I (B J:Nat) (ns:List Nd) (i:Int) (hi:i < 0∨(ns.length:Int)<=i) (w:World) (U:TapC w B J ns):
  Calls Tryz.prog 47 #[.pointer (some ⟨J,0,none⟩),.int .i64 i] w fun e w'=>e = .returned (.tuple #[.agg #[.int .i64 0,.int .i64 0,.int .i64 0,.int .i64 0,.slice none 0 0,.slice none 0 0],.bool false])/\Below w.heap.size w w':=by
 have M:Hid (TapC w B J ns):=U;have R:decide (0<=i/\i < (ns.length:Int))=false:=decide_eq_false (by omega);clear U hi;go_enter Tryz.func47,Tryz.ntmps47;go_wp2_with fail
 generalize D:World.alloc _ _=W0;have O:W0.heap[w.heap.size]?=some (.cells #[.int .i64 0,.int .i64 0,.int .i64 0,.int .i64 0,.slice none 0 0,.slice none 0 0] 109 (0,0)):=by rw [<- D];exact heap_alloc_new _ _
 have H:Hid (Below w.heap.size w W0):=by show Below _ _ _;rw [<- D];exact a_b _ _
 clear D;refine (c_R B J ns i false R W0 (M.out.up H.out)).mono ?_;rintro e w1 ⟨rfl,L⟩;subst L;clear R;obtain ⟨⟨r0,r1,r2,r3,r4,r5⟩,rf⟩:=g_m O;have k2:=a_i O;go_wp2;generalize I:World.setCell _ _ _=W9;have V:=a_m (o:=0) (x:=(.int .i64 0)) O;have h2:=a_m (o:=1) (x:=(.int .i64 0)) V;have h3:=a_m (o:=2) (x:=(.int .i64 0)) h2;have h4:=a_m (o:=3) (x:=(.int .i64 0)) h3;have h5:=a_m (o:=4) (x:=(.slice none 0 0)) h4
 have H9:W9.heap[w.heap.size]?=some (.cells #[.int .i64 0,.int .i64 0,.int .i64 0,.int .i64 0,.slice none 0 0,.slice none 0 0] 109 (0,0)):=by
  rw [<- I];exact (a_m h5).trans rfl
 have B9:Below w.heap.size w W9:=by
  rw [<- I];exact ((((((H.out.setCell (p:=⟨w.heap.size,0,none⟩) (Nat.le_refl _) _).setCell (p:=⟨w.heap.size,1,none⟩) (Nat.le_refl _) _).setCell (p:=⟨w.heap.size,2,none⟩) (Nat.le_refl _) _).setCell (p:=⟨w.heap.size,3,none⟩) (Nat.le_refl _) _).setCell (p:=⟨w.heap.size,4,none⟩) (Nat.le_refl _) _).setCell (p:=⟨w.heap.size,5,none⟩) (Nat.le_refl _) _)
 obtain ⟨⟨z0,z1,z2,z3,z4,z5⟩,_⟩:=g_m H9;exact bodyPost_ret (v:=.tuple #[.agg #[.int .i64 0,.int .i64 0,.int .i64 0,.int .i64 0,.slice none 0 0,.slice none 0 0],.bool false]) (by simp [results,Tryz.results47,go_sem,z0,z1,z2,z3,z4,z5]) rfl ⟨rfl,B9⟩
theorem b_3 (B tb:Nat) (ns:List Nd) (hG:NodesG ns) (i:Nat) (nd:Nd) (hi:ns[i]?=some nd) (w:World) (hT:TapC w B tb ns):
  Calls Tryz.prog 25 #[.pointer (some ⟨tb,0,none⟩),.int .i64 (i:Int)] w fun e w'=>∃ v,e = .returned (.tuple #[v,.bool true])/\TRes w' w.heap.size v nd.D nd.X/\Below w.heap.size w w':=by
 have L:Hid (∀ W,Below w.heap.size w W->Calls Tryz.prog 47 #[.pointer (some ⟨tb,0,none⟩),.int .i64 (i:Int)] W fun e w'=>∃ s t,e = .returned (.tuple #[.agg #[.int .i64 nd.op,.int .i64 nd.a,.int .i64 nd.b,.int .i64 nd.k,s,t],.bool true])/\OwnK .i64 3 w' W.heap.size s nd.D/\OwnK .i64 23 w' W.heap.size t nd.X/\Below W.heap.size W w'):=fun W hW=>m_H B tb ns hG i nd hi W (hT.up hW);obtain ⟨op,a,b,k,D,X⟩:=nd;simp only [] at L ⊢;clear hT hi hG;go_enter Tryz.func25,Tryz.ntmps25;go_wp2_with fail
 generalize H:World.alloc _ _=W0;have M:Hid (Below w.heap.size w W0):=by show Below _ _ _;rw [<- H];exact a_b _ _
 have XR:Hid (Cel W0 w.heap.size (.slice none 0 0) (.slice none 0 0)):=a_y H (by simp [go_sem]);clear H;refine (L.out W0 M.out).mono ?_;rintro e w1 ⟨s,t,rfl,hs,ht,aa⟩;obtain ⟨O,U,V,rfl⟩:=hs.form_;obtain ⟨R,I,J,rfl⟩:=ht.form_;have HF:Hid (TRes (set2 w1 w.heap.size (.slice O U V) (.slice R I J)) w.heap.size (.agg #[.slice O U V,.slice R I J]) D X/\Below w.heap.size w (set2 w1 w.heap.size (.slice O U V) (.slice R I J))):=⟨(TRes.set hs ht (a_a XR.out.1)).low M.out.size,a_j (a_c M.out aa) _ (Nat.le_refl _) _ _⟩
 clear hs ht L;have xr:=XR.out.up aa;have cf:=xr.set (.slice O U V) (.slice R I J);obtain ⟨r0,r1,r2,r3⟩:=xr;have kq:=a_a r0;have z0:=a_d cf.1 (a_b _ (.cells #[.int .i64 op,.int .i64 a,.int .i64 b,.int .i64 k,.slice O U V,.slice R I J] 109));have z1:=a_d cf.2.1 (a_b _ (.cells #[.int .i64 op,.int .i64 a,.int .i64 b,.int .i64 k,.slice O U V,.slice R I J] 109));clear cf;go_wp2;exact bodyPost_ret (v:=.tuple #[.agg #[.slice O U V,.slice R I J],.bool true]) (by simp [results,Tryz.results25,go_sem,z0,z1]) rfl ⟨_,rfl,HF.out.1.up (a_b _ _),a_c HF.out.2 (a_b _ _)⟩
theorem e_Y (B L:Nat) (ns:List Nd) (i:Int) (V:i < 0∨(ns.length:Int)<=i) (w:World) (R:TapC w B L ns):
  Calls Tryz.prog 25 #[.pointer (some ⟨L,0,none⟩),.int .i64 i] w fun e O=>e = .returned (.tuple #[.agg #[.slice none 0 0,.slice none 0 0],.bool false])/\Below w.heap.size w O:=by
 have H:Hid (∀ W,Below w.heap.size w W->Calls Tryz.prog 47 #[.pointer (some ⟨L,0,none⟩),.int .i64 i] W fun e O=>e = .returned (.tuple #[.agg #[.int .i64 0,.int .i64 0,.int .i64 0,.int .i64 0,.slice none 0 0,.slice none 0 0],.bool false])/\Below W.heap.size W O):=fun W hW=>m_I B L ns i V W (R.up hW);clear R V;go_enter Tryz.func25,Tryz.ntmps25;go_wp2_with fail
 generalize D:World.alloc _ _=W0;have I:Hid (Below w.heap.size w W0):=by show Below _ _ _;rw [<- D];exact a_b _ _
 have XR:Hid (Cel W0 w.heap.size (.slice none 0 0) (.slice none 0 0)):=a_y D (by simp [go_sem]);clear D;refine (H.out W0 I.out).mono ?_;rintro e w1 ⟨rfl,J⟩;have HF:Hid (Below w.heap.size w (set2 w1 w.heap.size (.slice none 0 0) (.slice none 0 0))):=a_j (a_c I.out J) _ (Nat.le_refl _) _ _;clear H;have U:=XR.out.up J;have M:=U.set (.slice none 0 0) (.slice none 0 0);obtain ⟨r0,r1,r2,r3⟩:=U;have kq:=a_a r0;have z0:=a_d M.1 (a_b _ (.cells #[.int .i64 0,.int .i64 0,.int .i64 0,.int .i64 0,.slice none 0 0,.slice none 0 0] 109));have z1:=a_d M.2.1 (a_b _ (.cells #[.int .i64 0,.int .i64 0,.int .i64 0,.int .i64 0,.slice none 0 0,.slice none 0 0] 109));clear M;go_wp2;exact bodyPost_ret (v:=.tuple #[.agg #[.slice none 0 0,.slice none 0 0],.bool false]) (by simp [results,Tryz.results25,go_sem,z0,z1]) rfl ⟨rfl,a_c HF.out (a_b _ _)⟩
/-- What giveA and giveB tell at an Op, if it is one. -/
def GvC (op:Int):Prop:=(2<=op/\op<=14->GvP 88 onA op)/\(c_0 op->GvP 89 onB op)
theorem GvC.leaf:GvC 1:=⟨fun h=>absurd h (by omega),fun h=>absurd h (by decide)⟩
/-- Every node's own number is Go's; what its Op gives is known. -/
def NodesK (ns:List Nd):Prop:=∀ nd,nd∈ns->InR nd.k/\GvC nd.op
theorem NodesK.nil:NodesK []:=fun nd h=>by simp at h
theorem NodesK.leaf {ns:List Nd} {d x:List Int} (h:NodesK ns):NodesK (c_B ns d x):=by
 unfold c_B
 split
 ·intro nd H;rcases List.mem_append.1 H with D|D
  ·exact h nd D
  ·simp at D;subst D;refine ⟨?_,GvC.leaf⟩;show InR 0;unfold InR;omega
 ·exact h
theorem NodesK.do {ns:List Nd} {op a b k:Int} (h:NodesK ns) (H:InR k) (J:GvC op):NodesK (doN ns op a b k):=by
 unfold doN
 split
 ·intro nd I;rcases List.mem_append.1 I with D|D
  ·exact h nd D
  ·simp at D;subst D;refine ⟨?_,J⟩;show InR (dK op k);unfold dK
   split
   ·exact H
   ·unfold InR;omega
 ·exact h
theorem q_F (k:Int) (a b g:Ten):onA 1 k a b g=([],[]):=by simp [onA]
theorem p_j {op:Int} (h:¬ c_0 op) (k:Int) (a b g:Ten):onB op k a b g=([],[]):=by
 have H:op≠2:=fun e=>h (.inl e);have I:op≠3:=fun e=>h (.inr (.inl e));have J:op≠4:=fun e=>h (.inr (.inr (.inl e)));have L:op≠6:=fun e=>h (.inr (.inr (.inr (.inl e))));have D:op≠12:=fun e=>h (.inr (.inr (.inr (.inr e))));simp [onB,H,I,J,L,D]
/-- What Value tells of any number. -/
theorem o_s (B I:Nat) (ns:List Nd) (O:NodesG ns) (i:Int) (w:World) (L:TapC w B I ns):
  Calls Tryz.prog 25 #[.pointer (some ⟨I,0,none⟩),.int .i64 i] w fun e H=>∃ v q,e = .returned (.tuple #[v,.bool q])/\TRes H w.heap.size v (if 0<=i/\i < (ns.length:Int) then (ndN ns i).D else []) (if 0<=i/\i < (ns.length:Int) then (ndN ns i).X else [])/\Below w.heap.size w H:=by
 by_cases h:0<=i/\i < (ns.length:Int)
 ·obtain ⟨j,rfl⟩:∃ j:Nat,i=(j:Int):=⟨i.toNat,by omega⟩
  rw [if_pos h,if_pos h];refine (b_3 B I ns O j _ (c_S (by omega)) w L).mono ?_;rintro e H ⟨v,rfl,M,J⟩;exact ⟨v,true,rfl,M,J⟩
 ·rw [if_neg h,if_neg h];refine (e_Y B I ns i (by omega) w L).mono ?_;rintro e H ⟨rfl,J⟩;exact ⟨_,false,rfl,TRes.none _ _,J⟩
theorem m_J (B tb:Nat) (ns:List Nd) (hG:NodesG ns) (hV:NodesV ns) (aC:NodesK ns) (i:Nat) (op a b k:Int) (D X:List Int) (hi:ns[i]?=some ⟨op,a,b,k,D,X⟩) (ps pt p p2:Option Addr) (U cs nt ct n c n2 c2:Nat) (g:Ten) (hg:b_b g) (eg:g.1=D) (aG:n2<=c2) (w:World) (hT:TapC w B tb ns) (aX:Hid (Tz w)) (h1:Nums .i64 w (.slice p n c) g.1) (h2:Nums .i64 w (.slice p2 n2 c2) g.2):
  Calls Tryz.prog 68 #[.pointer (some ⟨tb,0,none⟩),.agg #[.int .i64 op,.int .i64 a,.int .i64 b,.int .i64 k,.slice ps U cs,.slice pt nt ct],.agg #[.slice p n c,.slice p2 n2 c2]] w fun e w'=>∃ u v,e = .returned (.tuple #[u,v,.int .i64 0])/\TRes w' w.heap.size u (onA op k (aOf ns ⟨op,a,b,k,D,X⟩) (bOf ns ⟨op,a,b,k,D,X⟩) g).1 (onA op k (aOf ns ⟨op,a,b,k,D,X⟩) (bOf ns ⟨op,a,b,k,D,X⟩) g).2/\TRes w' w.heap.size v (onB op k (aOf ns ⟨op,a,b,k,D,X⟩) (bOf ns ⟨op,a,b,k,D,X⟩) g).1 (onB op k (aOf ns ⟨op,a,b,k,D,X⟩) (bOf ns ⟨op,a,b,k,D,X⟩) g).2/\Below w.heap.size w w':=by
 have aI:InR k:=(aC _ (f_J hi)).1;have aR:GvC op:=(aC _ (f_J hi)).2;obtain ⟨RA,ap⟩:∃ R,onA op k (aOf ns ⟨op,a,b,k,D,X⟩) (bOf ns ⟨op,a,b,k,D,X⟩) g=R:=⟨_,rfl⟩
 obtain ⟨RB,ak⟩:∃ R,onB op k (aOf ns ⟨op,a,b,k,D,X⟩) (bOf ns ⟨op,a,b,k,D,X⟩) g=R:=⟨_,rfl⟩
 have bk:i < ns.length:=(List.getElem?_eq_some_iff.1 hi).1
 obtain ⟨ta,J,be,a4,a8,bb⟩:∃ ta J:Ten,
   Hid (∀ W,Below w.heap.size w W->Calls Tryz.prog 25 #[.pointer (some ⟨tb,0,none⟩),.int .i64 a] W fun e w'=>∃ v q,e = .returned (.tuple #[v,.bool q])/\TRes w' W.heap.size v ta.1 ta.2/\Below W.heap.size W w')
   /\ Hid (∀ W,Below w.heap.size w W->Calls Tryz.prog 25 #[.pointer (some ⟨tb,0,none⟩),.int .i64 b] W fun e w'=>∃ v q,e = .returned (.tuple #[v,.bool q])/\TRes w' W.heap.size v J.1 J.2/\Below W.heap.size W w')
   /\ Hid (∀ W p3 V p5 p6 n3 c3 H I n5 c5 M O,Below w.heap.size w W->Nums .i64 W (.slice p3 n3 c3) ta.1->Nums .i64 W (.slice V H I) ta.2->Nums .i64 W (.slice p5 n5 c5) J.1->Nums .i64 W (.slice p6 M O) J.2->H<=I->M<=O->Calls Tryz.prog 88 #[.agg #[.int .i64 op,.int .i64 a,.int .i64 b,.int .i64 k,.slice ps U cs,.slice pt nt ct],.agg #[.slice p3 n3 c3,.slice V H I],.agg #[.slice p5 n5 c5,.slice p6 M O],.agg #[.slice p n c,.slice p2 n2 c2]] W fun e w'=>∃ v',e = .returned (.tuple #[v',.int .i64 0])/\TRes w' W.heap.size v' RA.1 RA.2/\Below W.heap.size W w')
   /\ Hid (∀ W p3 V p5 p6 n3 c3 H I n5 c5 M O,Below w.heap.size w W->Nums .i64 W (.slice p3 n3 c3) ta.1->Nums .i64 W (.slice V H I) ta.2->Nums .i64 W (.slice p5 n5 c5) J.1->Nums .i64 W (.slice p6 M O) J.2->H<=I->M<=O->Calls Tryz.prog 89 #[.agg #[.int .i64 op,.int .i64 a,.int .i64 b,.int .i64 k,.slice ps U cs,.slice pt nt ct],.agg #[.slice p3 n3 c3,.slice V H I],.agg #[.slice p5 n5 c5,.slice p6 M O],.agg #[.slice p n c,.slice p2 n2 c2]] W fun e w'=>∃ v',e = .returned (.tuple #[v',.int .i64 0])/\TRes w' W.heap.size v' RB.1 RB.2/\Below W.heap.size W w'):=by
  have cv:=fun (j:Int) W (hW:Below w.heap.size w W)=>o_s B tb ns hG j W (hT.up hW);by_cases ba:op=1
  ·subst ba;rw [q_F] at ap;rw [p_j (by decide)] at ak;subst ap ak;exact ⟨((if 0<=a/\a < (ns.length:Int) then (ndN ns a).D else []),(if 0<=a/\a < (ns.length:Int) then (ndN ns a).X else [])),((if 0<=b/\b < (ns.length:Int) then (ndN ns b).D else []),(if 0<=b/\b < (ns.length:Int) then (ndN ns b).X else [])),fun W hW=>cv a W hW,fun W hW=>cv b W hW,fun W p3 V p5 p6 n3 c3 H I n5 c5 M O hW _ _ _ _ _ _=>q_E 1 (by decide) ps pt p3 V p5 p6 p p2 U cs nt ct n3 c3 H I n5 c5 M O n c n2 c2 a b k W,fun W p3 V p5 p6 n3 c3 H I n5 c5 M O hW _ _ _ _ _ _=>m_G 1 (by decide) ps pt p3 V p5 p6 p p2 U cs nt ct n3 c3 H I n5 c5 M O n c n2 c2 a b k W⟩
  ·obtain ⟨ok,ho,ha,hb,a6⟩:=OkP.of hG hV hi ba hg eg;simp only [] at ok ho ha hb a6;have a5:=cv a;rw [if_pos ⟨ha.1,by omega⟩,if_pos ⟨ha.1,by omega⟩] at a5;have a2:=cv b
   have eb:(if 0<=b/\b < (ns.length:Int) then (ndN ns b).D else [])=(bOf ns ⟨op,a,b,k,D,X⟩).1/\(if 0<=b/\b < (ns.length:Int) then (ndN ns b).X else [])=(bOf ns ⟨op,a,b,k,D,X⟩).2:=by
    show _=dD ns op b/\_=dX ns op b;unfold dD dX;by_cases ht:c_0 op
    ·have:=hb ht;rw [if_pos ht,if_pos ht,if_pos ⟨this.1,by omega⟩,if_pos ⟨this.1,by omega⟩];exact ⟨rfl,rfl⟩
    ·have:=a6 ht;rw [if_neg ht,if_neg ht,if_neg (by omega),if_neg (by omega)];exact ⟨rfl,rfl⟩
   rw [eb.1,eb.2] at a2;refine ⟨aOf ns ⟨op,a,b,k,D,X⟩,bOf ns ⟨op,a,b,k,D,X⟩,a5,a2,fun W p3 V p5 p6 n3 c3 H I n5 c5 M O hW u1 u2 u3 u4 u5 u6=>?_,fun W p3 V p5 p6 n3 c3 H I n5 c5 M O hW u1 u2 u3 u4 u5 u6=>?_⟩
   ·rw [<- ap];exact aR.1 ho ps pt p3 V p5 p6 p p2 U cs nt ct n3 c3 H I n5 c5 M O n c n2 c2 a b k _ _ g aI ok u5 u6 aG W (Hid.up_tz aX hW) u1 u2 u3 u4 (h1.up hW) (h2.up hW)
   ·rw [<- ak];by_cases ht:c_0 op
    ·exact aR.2 ht ps pt p3 V p5 p6 p p2 U cs nt ct n3 c3 H I n5 c5 M O n c n2 c2 a b k _ _ g aI ok u5 u6 aG W (Hid.up_tz aX hW) u1 u2 u3 u4 (h1.up hW) (h2.up hW)
    ·rw [p_j ht];exact m_G op ht ps pt p3 V p5 p6 p p2 U cs nt ct n3 c3 H I n5 c5 M O n c n2 c2 a b k W
 rw [ap,ak];clear ap ak aI aR bk hG hV aC hi hg eg aG hT aX h1 h2;go_enter Tryz.func68,Tryz.ntmps68;go_wp2_with fail
 generalize ae:World.alloc _ _=W0;have a1:=b_C (w:=w) ae (by go_grown)
 have XN:Hid (W0.heap[w.heap.size]?=some (.cells #[.int .i64 op,.int .i64 a,.int .i64 b,.int .i64 k,.slice ps U cs,.slice pt nt ct] 109 (0,0))):=by
  show _=_;rw [<- ae];exact ((a_b _ _).block _ (by simp;try omega)).trans (((a_b _ _).block _ (by simp;try omega)).trans (((a_b _ _).block _ (by simp;try omega)).trans (heap_alloc_new _ _)))
 have XG:Hid (Cel W0 (w.heap.size+1) (.slice p n c) (.slice p2 n2 c2)):=a_y ae (by simp [go_sem]);have X6:Hid (Cel W0 (w.heap.size+2) (.slice none 0 0) (.slice none 0 0)):=a_y ae (by simp [go_sem]);have X7:Hid (Cel W0 (w.heap.size+3) (.slice none 0 0) (.slice none 0 0)):=a_y ae (by simp [go_sem]);clear ae;refine (be.out W0 a1.out).mono ?_;rintro e w1 ⟨v1,q1,rfl,⟨s1,t1,rfl,aM,aA⟩,av⟩;obtain ⟨p3,n3,c3,rfl⟩:=aM.form_;obtain ⟨V,H,I,rfl⟩:=aA.form_;have aQ:=a_M (a_c a1.out av) av;have ar:Hid (Nums .i64 w1 (.slice p3 n3 c3) ta.1/\Nums .i64 w1 (.slice V H I) ta.2/\H<=I):=⟨aM.nums,aA.nums,aA.cap⟩
 have aE:w1.heap[w.heap.size]?=some (.cells #[.int .i64 op,.int .i64 a,.int .i64 b,.int .i64 k,.slice ps U cs,.slice pt nt ct] 109 (0,0)):=(av.block _ (a_i XN.out)).trans XN.out;obtain ⟨⟨k0,k1,k2,k3,k4,k5⟩,_⟩:=g_m aE;have kz:=a_i aE;clear aM aA av be;go_wp2_with fail
 generalize aK:World.alloc _ _=W2;have B2:Below w1.heap.size w1 W2:=by rw [<- aK];exact a_b _ _
 have a3:Hid (Cel W2 w1.heap.size (.slice p3 n3 c3) (.slice V H I)):=a_y aK (by simp [go_sem]);have ax:=a_M (a_c aQ.out.1 B2) (a_c aQ.out.2 B2);have au:Hid (Nums .i64 W2 (.slice p3 n3 c3) ta.1/\Nums .i64 W2 (.slice V H I) ta.2/\H<=I):=⟨ar.out.1.up B2,ar.out.2.1.up B2,ar.out.2.2⟩
 clear aK B2 aQ ar aE k0 k1 k2 k3 k4 k5 kz;refine (a4.out W2 ax.out.1).mono ?_;rintro e w3 ⟨v3,q3,rfl,⟨s3,t3,rfl,aP,ay⟩,ai⟩;obtain ⟨p5,n5,c5,rfl⟩:=aP.form_;obtain ⟨p6,M,O,rfl⟩:=ay.form_;have an:=a_M (a_c ax.out.1 ai) (a_c ax.out.2 ai);have ac:Hid ((Nums .i64 w3 (.slice p3 n3 c3) ta.1/\Nums .i64 w3 (.slice V H I) ta.2/\H<=I)/\Nums .i64 w3 (.slice p5 n5 c5) J.1/\Nums .i64 w3 (.slice p6 M O) J.2/\M<=O):=⟨⟨au.out.1.up ai,au.out.2.1.up ai,au.out.2.2⟩,aP.nums,ay.nums,ay.cap⟩
 have aW:w3.heap[w.heap.size]?=some (.cells #[.int .i64 op,.int .i64 a,.int .i64 b,.int .i64 k,.slice ps U cs,.slice pt nt ct] 109 (0,0)):=(an.out.2.block _ (a_i XN.out)).trans XN.out;have aH:Hid (Cel w3 w1.heap.size (.slice p3 n3 c3) (.slice V H I)):=a3.out.up ai;obtain ⟨⟨k0,k1,k2,k3,k4,k5⟩,_⟩:=g_m aW;have kz:=a_i aW;obtain ⟨aj,aS,_,_⟩:=aH.out;have ka:=a_a aj;obtain ⟨aq,aU,_,_⟩:=XG.out.up an.out.2;have kg:=a_a aq;clear aP ay ai a4 ax au a3;go_wp2_with fail
 generalize aV:World.alloc _ _=W4;have B4:Below w3.heap.size w3 W4:=by rw [<- aV];exact a_b _ _
 have bc:Hid (Cel W4 w3.heap.size (.slice p5 n5 c5) (.slice p6 M O)):=a_y aV (by simp [go_sem]);have a9:Hid (Cel W4 w1.heap.size (.slice p3 n3 c3) (.slice V H I)):=aH.out.up B4;have af:=a_M (a_c an.out.1 B4) (a_c an.out.2 B4);have L:Hid ((Nums .i64 W4 (.slice p3 n3 c3) ta.1/\Nums .i64 W4 (.slice V H I) ta.2/\H<=I)/\Nums .i64 W4 (.slice p5 n5 c5) J.1/\Nums .i64 W4 (.slice p6 M O) J.2/\M<=O):=⟨⟨ac.out.1.1.up B4,ac.out.1.2.1.up B4,ac.out.1.2.2⟩,ac.out.2.1.up B4,ac.out.2.2.1.up B4,ac.out.2.2.2⟩
 clear aV B4 an ac aW k0 k1 k2 k3 k4 k5 kz aj aS ka aq aU kg aH;refine (a8.out W4 _ _ _ _ _ _ _ _ _ _ _ _ af.out.1 L.out.1.1 L.out.1.2.1 L.out.2.1 L.out.2.2.1 L.out.1.2.2 L.out.2.2.2).mono ?_;rintro e w5 ⟨v5,rfl,⟨s5,t5,rfl,aY,aT⟩,aa⟩;obtain ⟨pa,na,ca,rfl⟩:=aY.form_;obtain ⟨pb,nb,cb,rfl⟩:=aT.form_;have ao:=a_M (a_c af.out.1 aa) (a_c af.out.2 aa);have ab:Hid ((Nums .i64 w5 (.slice p3 n3 c3) ta.1/\Nums .i64 w5 (.slice V H I) ta.2/\H<=I)/\Nums .i64 w5 (.slice p5 n5 c5) J.1/\Nums .i64 w5 (.slice p6 M O) J.2/\M<=O):=⟨⟨L.out.1.1.up aa,L.out.1.2.1.up aa,L.out.1.2.2⟩,L.out.2.1.up aa,L.out.2.2.1.up aa,L.out.2.2.2⟩
 have aO:Hid (OwnK .i64 3 w5 W0.heap.size (.slice pa na ca) RA.1/\OwnK .i64 23 w5 W0.heap.size (.slice pb nb cb) RA.2):=⟨aY.low af.out.2.size,aT.low af.out.2.size⟩
 have a0:w5.heap[w.heap.size]?=some (.cells #[.int .i64 op,.int .i64 a,.int .i64 b,.int .i64 k,.slice ps U cs,.slice pt nt ct] 109 (0,0)):=(ao.out.2.block _ (a_i XN.out)).trans XN.out;obtain ⟨⟨k0,k1,k2,k3,k4,k5⟩,_⟩:=g_m a0;have kz:=a_i a0;obtain ⟨aj,aS,_,_⟩:=a9.out.up aa;have ka:=a_a aj;obtain ⟨bd,bg,_,_⟩:=bc.out.up aa;have kb:=a_a bd;obtain ⟨aq,aU,_,_⟩:=XG.out.up ao.out.2;have kg:=a_a aq;clear aY aT aa a8 af L a9 bc;go_wp2_with fail
 generalize aB:World.alloc _ _=W6;have B6:Below w5.heap.size w5 W6:=by rw [<- aB];exact a_b _ _
 have a7:Hid (Cel W6 w5.heap.size (.slice pa na ca) (.slice pb nb cb)):=a_y aB (by simp [go_sem]);have ag:=a_M (a_c ao.out.1 B6) (a_c ao.out.2 B6);have ad:Hid ((Nums .i64 W6 (.slice p3 n3 c3) ta.1/\Nums .i64 W6 (.slice V H I) ta.2/\H<=I)/\Nums .i64 W6 (.slice p5 n5 c5) J.1/\Nums .i64 W6 (.slice p6 M O) J.2/\M<=O):=⟨⟨ab.out.1.1.up B6,ab.out.1.2.1.up B6,ab.out.1.2.2⟩,ab.out.2.1.up B6,ab.out.2.2.1.up B6,ab.out.2.2.2⟩
 have aF:Hid (OwnK .i64 3 W6 W0.heap.size (.slice pa na ca) RA.1/\OwnK .i64 23 W6 W0.heap.size (.slice pb nb cb) RA.2):=⟨aO.out.1.up B6,aO.out.2.up B6⟩
 clear aB B6 ao ab a0 k0 k1 k2 k3 k4 k5 kz aj aS ka bd bg kb aq aU kg aO;refine (bb.out W6 _ _ _ _ _ _ _ _ _ _ _ _ ag.out.1 ad.out.1.1 ad.out.1.2.1 ad.out.2.1 ad.out.2.2.1 ad.out.1.2.2 ad.out.2.2.2).mono ?_;rintro e w7 ⟨v7,rfl,⟨s7,t7,rfl,aD,aJ⟩,ah⟩;obtain ⟨pc,nc,cc,rfl⟩:=aD.form_;obtain ⟨pd,nd,cd,rfl⟩:=aJ.form_;have az:=a_M (a_c ag.out.1 ah) (a_c ag.out.2 ah);have am:Hid ((OwnK .i64 3 w7 W0.heap.size (.slice pa na ca) RA.1/\OwnK .i64 23 w7 W0.heap.size (.slice pb nb cb) RA.2)/\OwnK .i64 3 w7 W0.heap.size (.slice pc nc cc) RB.1/\OwnK .i64 23 w7 W0.heap.size (.slice pd nd cd) RB.2):=⟨⟨aF.out.1.up ah,aF.out.2.up ah⟩,aD.low ag.out.2.size,aJ.low ag.out.2.size⟩
 have aZ:Hid (Cel w7 w5.heap.size (.slice pa na ca) (.slice pb nb cb)):=a7.out.up ah;clear aD aJ ah bb ag ad a7 aF;go_wp2_with fail
 generalize aL:World.alloc _ _=W8;have B8:Below w7.heap.size w7 W8:=by rw [<- aL];exact a_b _ _
 have bj:Cel W8 w7.heap.size (.slice pc nc cc) (.slice pd nd cd):=(a_y aL (by simp [go_sem])).out;have bh:=aZ.out.up B8;have aN:=a_M (a_c az.out.1 B8) (a_c az.out.2 B8);have aw:Hid ((OwnK .i64 3 W8 W0.heap.size (.slice pa na ca) RA.1/\OwnK .i64 23 W8 W0.heap.size (.slice pb nb cb) RA.2)/\OwnK .i64 3 W8 W0.heap.size (.slice pc nc cc) RB.1/\OwnK .i64 23 W8 W0.heap.size (.slice pd nd cd) RB.2):=⟨⟨am.out.1.1.up B8,am.out.1.2.up B8⟩,am.out.2.1.up B8,am.out.2.2.up B8⟩
 have bl:=a_a aZ.out.1;have bn:=az.out.2.size;have bm:=a_a X7.out.1;have x6:=X6.out.up aN.out.2;have x7:=X7.out.up aN.out.2;have bf:Hid (Cel W8 (w.heap.size+2) (.slice none 0 0) (.slice none 0 0)):=x6;have bi:Hid (Cel W8 (w.heap.size+3) (.slice none 0 0) (.slice none 0 0)):=x7;obtain ⟨u0,u1,u2,u3⟩:=x6;obtain ⟨v0,v1,v2,v3⟩:=x7;obtain ⟨f0,f1,_,_⟩:=bh;obtain ⟨y0,y1,_,_⟩:=bj;have j0:=a_a u0;have j1:=a_a v0;have j2:=a_a f0;have j3:=a_a y0;clear aL B8 az am aZ;go_region;generalize hZ:World.drew _=Z;obtain ⟨HZ,⟨e0,e1⟩,e2,e3⟩:=r_4 (w:=w) (B:=W0.heap.size) (Z:=Z) rfl (by rw [<- hZ];exact c_T (Below.refl _ _)) bf.out bi.out (by omega) aN.out.1 (by omega) (by omega) (by omega) (by omega) aw.out.1.1 aw.out.1.2 aw.out.2.1 aw.out.2.2;clear hZ;go_wp2;exact bodyPost_ret (v:=.tuple #[.agg #[.slice pa na ca,.slice pb nb cb],.agg #[.slice pc nc cc,.slice pd nd cd],.int .i64 0]) (by simp [results,Tryz.results68,go_sem,e0,e1,e2,e3]) rfl ⟨_,_,rfl,HZ.out⟩
theorem NodesV.ls {ns:List Nd} {s:Nd} (h:NodesV ns):NodesV (lsN ns s):=by
 unfold lsN
 split
 ·exact h.leaf
 ·exact h.do
theorem NodesV.lyF {ns sts:List Nd} (h:NodesV ns):∀ i,NodesV (lyF sts ns i).2.1
 | 0=>h
 | i+1=>by
  show NodesV (if (Wd.lyF sts ns i).1=0 then (lsE (Wd.lyF sts ns i).2.1 (stA sts i),lsN (Wd.lyF sts ns i).2.1 (stA sts i),lsR (Wd.lyF sts ns i).2.1 (stA sts i)) else Wd.lyF sts ns i).2.1
  split
  ·exact (NodesV.lyF h i).ls
  ·exact NodesV.lyF h i
theorem NodesV.lo {ns sts:List Nd} {e:Int} (h:NodesV ns):NodesV (loN e ns sts):=by
 unfold loN
 split
 ·unfold lyM
  split
  ·exact NodesV.lyF h _
  ·exact h
 ·exact h
theorem q_G {op:Int} (h:op=2∨op=3∨op=4∨op=9∨op=10∨op=11):GvC op:=by
 rcases h with rfl|rfl|rfl|rfl|rfl|rfl
 ·exact ⟨fun _=>ga2,fun _=>gb2⟩
 ·exact ⟨fun _=>ga3,fun _=>gb3⟩
 ·exact ⟨fun _=>ga4,fun _=>gb4⟩
 ·exact ⟨fun _=>ga9,fun h=>absurd h (by decide)⟩
 ·exact ⟨fun _=>t_N,fun h=>absurd h (by decide)⟩
 ·exact ⟨fun _=>t_B,fun h=>absurd h (by decide)⟩
/-- A step whose node may be swept over. -/
def o_t (s:Nd):Prop:=InR s.k/\(s.op≠1->GvC s.op)
theorem NodesK.ls {ns:List Nd} {s:Nd} (h:NodesK ns) (D:o_t s):NodesK (lsN ns s):=by
 unfold lsN
 split
 ·exact h.leaf
 ·rename_i H
  exact h.do D.1 (D.2 H)
theorem NodesK.lyF {ns sts:List Nd} (h:NodesK ns) (D:∀ i,o_t (stA sts i)):∀ i,NodesK (lyF sts ns i).2.1
 | 0=>h
 | i+1=>by
  show NodesK (if (Wd.lyF sts ns i).1=0 then (lsE (Wd.lyF sts ns i).2.1 (stA sts i),lsN (Wd.lyF sts ns i).2.1 (stA sts i),lsR (Wd.lyF sts ns i).2.1 (stA sts i)) else Wd.lyF sts ns i).2.1
  split
  ·exact (NodesK.lyF h D i).ls (D i)
  ·exact NodesK.lyF h D i
theorem NodesK.lo {ns sts:List Nd} {e:Int} (h:NodesK ns) (D:∀ i,o_t (stA sts i)):NodesK (loN e ns sts):=by
 unfold loN
 split
 ·unfold lyM
  split
  ·exact NodesK.lyF h D _
  ·exact h
 ·exact h
theorem e_h (y:List Int):o_t (lfS y):=⟨by show InR 0;unfold InR;omega,fun h=>absurd rfl h⟩
theorem b_P {op a b k:Int} (h:op=2∨op=3∨op=4∨op=9∨op=10∨op=11) (D:InR k):o_t (opS op a b k):=⟨D,fun _=>q_G h⟩
theorem i_P:o_t ⟨1,0,0,0,[],[]⟩:=⟨by show InR 0;unfold InR;omega,fun h=>absurd rfl h⟩
theorem t_f {N o:Int} {y:List Int}:∀ i,o_t (stA (sqS N o y) i)
 | 0=>e_h y
 | 1=>b_P (by omega) (by unfold InR;omega)
 | 2=>b_P (by omega) (by unfold InR;omega)
 | 3=>b_P (by omega) (by unfold InR;omega)
 | _+4=>i_P
theorem t_g {N o:Int} {y:List Int}:∀ i,o_t (stA (szS N o y) i)
 | 0=>e_h y
 | 1=>b_P (by omega) (by unfold InR;omega)
 | 2=>b_P (by omega) (by unfold InR;omega)
 | 3=>b_P (by omega) (by unfold InR;omega)
 | _+4=>i_P
theorem t_h {N o:Int} {n:Nat} {c:Int}:∀ i,o_t (stA (hgS N o n c) i)
 | 0=>e_h _
 | 1=>e_h _
 | 2=>b_P (by omega) (by unfold InR;omega)
 | 3=>b_P (by omega) (by unfold InR;omega)
 | 4=>b_P (by omega) (by unfold InR;omega)
 | 5=>b_P (by omega) (by unfold InR;omega)
 | 6=>b_P (by omega) (by unfold InR;omega)
 | 7=>b_P (by omega) (by unfold InR;omega)
 | 8=>b_P (by omega) (by unfold InR;omega)
 | _+9=>i_P
end Go.Proofs.YtjlofobnmjompaaGreatDoor.Wd
namespace Go.Proofs.YtjlofobnmjompaaGreatDoor.Wd
/-- A layer: its kind and two numbers. -/
abbrev Ly:=ByteArray×Int×Int
def e_i:ByteArray:=⟨#[100,101,110,115,101]⟩
def i_Q:ByteArray:=⟨#[99,111,110,118]⟩
def i_R:ByteArray:=⟨#[112,111,111,108]⟩
def i_S:ByteArray:=⟨#[98,101,110,100]⟩
def e_j:ByteArray:=⟨#[115,107,105,112]⟩
/-- A kind's place in the table; 5: it is none. -/
def a_s (s:ByteArray):Nat:=if s=e_i then 0 else if s=i_Q then 1 else if s=i_R then 2 else if s=i_S then 3 else if s=e_j then 4 else 5
def b_L (i:Nat):ByteArray:=[e_i,i_Q,i_R,i_S,e_j].getD i ⟨#[]⟩
theorem d_z (s:ByteArray):(s=e_i/\a_s s=0)∨(s=i_Q/\a_s s=1)∨(s=i_R/\a_s s=2)∨(s=i_S/\a_s s=3)∨(s=e_j/\a_s s=4)∨((s≠e_i/\s≠i_Q/\s≠i_R/\s≠i_S/\s≠e_j)/\a_s s=5):=by
 by_cases H:s=e_i
 ·exact .inl ⟨H,by rw [H];decide +kernel⟩
 by_cases D:s=i_Q
 ·exact .inr (.inl ⟨D,by rw [D];decide +kernel⟩)
 by_cases I:s=i_R
 ·exact .inr (.inr (.inl ⟨I,by rw [I];decide +kernel⟩))
 by_cases J:s=i_S
 ·exact .inr (.inr (.inr (.inl ⟨J,by rw [J];decide +kernel⟩)))
 by_cases L:s=e_j
 ·exact .inr (.inr (.inr (.inr (.inl ⟨L,by rw [L];decide +kernel⟩))))
 ·exact .inr (.inr (.inr (.inr (.inr ⟨⟨H,D,I,J,L⟩,by simp [a_s,H,D,I,J,L]⟩))))
theorem m_K (s:ByteArray):a_s s<=5:=by
 rcases d_z s with h|h|h|h|h|h <;> omega
theorem h_2 (s:ByteArray) (h:a_s s < 5):b_L (a_s s)=s:=by
 rcases d_z s with ⟨rfl,e⟩|⟨rfl,e⟩|⟨rfl,e⟩|⟨rfl,e⟩|⟨rfl,e⟩|⟨_,e⟩
 ·rw [e];rfl
 ·rw [e];rfl
 ·rw [e];rfl
 ·rw [e];rfl
 ·rw [e];rfl
 ·omega
def h_m (i:Nat):Nat:=if i=1 then 2 else if i < 4 then 1 else 0
def c_s (i:Nat):Int:=if i=0 then 256 else if i=1 then 16 else if i=2 then 16 else if i=3 then 5 else 0
def d_h (i:Nat):Int:=if i=1 then 16 else 0
/-- May a layer's kind and numbers be? -/
abbrev a_R (l:Ly):Prop:=a_s l.1 < 5/\(if 0 < h_m (a_s l.1) then 1<=l.2.1/\l.2.1<=c_s (a_s l.1) else l.2.1=0)/\(if 1 < h_m (a_s l.1) then 1<=l.2.2/\l.2.2<=d_h (a_s l.1) else l.2.2=0)
theorem a_K {l:Ly} (h:a_R l):(l.1=e_i/\a_s l.1=0/\(1<=l.2.1/\l.2.1<=256)/\l.2.2=0)∨(l.1=i_Q/\a_s l.1=1/\(1<=l.2.1/\l.2.1<=16)/\1<=l.2.2/\l.2.2<=16)∨(l.1=i_R/\a_s l.1=2/\(1<=l.2.1/\l.2.1<=16)/\l.2.2=0)∨(l.1=i_S/\a_s l.1=3/\(1<=l.2.1/\l.2.1<=5)/\l.2.2=0)∨(l.1=e_j/\a_s l.1=4/\l.2.1=0/\l.2.2=0):=by
 obtain ⟨I,D,H⟩:=h;rcases d_z l.1 with ⟨e,k⟩|⟨e,k⟩|⟨e,k⟩|⟨e,k⟩|⟨e,k⟩|⟨_,k⟩ <;> rw [k] at I D H <;> simp [h_m,c_s,d_h] at D H
 ·exact .inl ⟨e,k,D,H⟩
 ·exact .inr (.inl ⟨e,k,D,H⟩)
 ·exact .inr (.inr (.inl ⟨e,k,D,H⟩))
 ·exact .inr (.inr (.inr (.inl ⟨e,k,D,H⟩)))
 ·exact .inr (.inr (.inr (.inr ⟨e,k,D,H⟩)))
 ·omega
/-- What comes in. -/
def InOk (d:List Int):Prop:=(∃ x,d = [x]/\1<=x/\x<=1024)∨∃ x y,d = [x,y]/\(1<=x/\x<=64)/\1<=y/\y<=64
def d_P (d:List Int):Bool:=match d with
 | [x]=>decide (1<=x/\x<=1024)
 | [x,y]=>decide ((1<=x/\x<=64)/\1<=y/\y<=64)
 | _=>false
theorem m_L (d:List Int):d_P d=true↔InOk d:=by
 unfold InOk
 match d with
 | []=>simp [d_P]
 | [x]=>simp [d_P]
 | [x,y]=>
  simp only [d_P,decide_eq_true_eq]
  exact ⟨fun h=>.inr ⟨x,y,rfl,h⟩,fun h=>by
   rcases h with ⟨_,h,_⟩|⟨_,_,h,D⟩
   ·simp at h
   ·simp only [List.cons.injEq,and_true] at h;obtain ⟨rfl,rfl⟩:=h;exact D⟩
 | x :: y :: z :: r=>simp [d_P]
def b_M (d:List Int) (ls:List Ly):Bool:=d_P d && ls.all fun l=>decide (a_R l)
def a_t (l:List Int):Int:=l.foldl (·*·) 1
def d_A (l:Ly) (d:List Int):Option (List Int):=
 if a_s l.1=0 then some [l.2.1]
 else if a_s l.1=1 then (if d.length=2/\l.2.2<=d.getD 1 0 then some [l.2.1,d.getD 1 0 - l.2.2+1] else none)
 else if a_s l.1=2 then (if d.length=2/\l.2.1<=d.getD 1 0 then some [d.getD 0 0,Int.tdiv (d.getD 1 0) l.2.1] else none)
 else some d
def c_t (l:Ly) (d:List Int):List (List Int):=if a_s l.1=0 then [[l.2.1,a_t d],[l.2.1]] else if a_s l.1=1 then [[l.2.1,d.getD 0 0,l.2.2]] else []
def lyD:Ly:=(⟨#[]⟩,0,0)
def lyA (ls:List Ly) (i:Nat):Ly:=ls.getD i lyD
def shA (S:List (List Int)) (i:Nat):List Int:=S.getD i []
/-- May the i-th layer, a skip, add what went into the one ahead? -/
abbrev c_Z (ls:List Ly) (S:List (List Int)) (i:Nat):Prop:=0 < i/\(lyA ls (i - 1)).1≠e_j/\shA S (i - 1)=shA S i
def f_3 (ls:List Ly) (i:Nat) (S:List (List Int)):Option (List (List Int)):=
 if (lyA ls i).1=e_j/\¬ c_Z ls S i then none else (d_A (lyA ls i) (shA S i)).map fun o=>S++[o]
/-- What comes in, and what goes out of the first i layers. -/
def shN (d:List Int) (ls:List Ly):Nat->Option (List (List Int))
 | 0=>some [d]
 | i+1=>(shN d ls i).bind (f_3 ls i)
theorem j_5 {d:List Int} {ls:List Ly} {i:Nat} (h:shN d ls i=none):∀ k,shN d ls (i+k)=none
 | 0=>h
 | k+1=>by rw [<- Nat.add_assoc];show (shN d ls (i+k)).bind _=none;rw [j_5 h k];rfl
theorem b_m {d:List Int} {ls:List Ly} {i n:Nat} (h:shN d ls i=none) (D:i<=n):shN d ls n=none:=by
 have:=j_5 h (n - i);rwa [show i+(n - i)=n by omega] at this
theorem a_G {d:List Int} {ls:List Ly} {i:Nat} {S:List (List Int)} (h:shN d ls i=some S):shN d ls (i+1)=f_3 ls i S:=by
 show (shN d ls i).bind _=_;rw [h];rfl
theorem c_U {d:List Int} {ls:List Ly}:∀ {i:Nat} {S:List (List Int)},shN d ls i=some S->S.length=i+1
 | 0,S,h=>by cases h;rfl
 | i+1,S,h=>by
  cases D:shN d ls i with
  | none=>rw [b_m D (Nat.le_succ i)] at h;cases h
  | some S0=>
   rw [a_G D] at h;unfold f_3 at h
   split at h
   ·cases h
   ·obtain ⟨o,H,rfl⟩:=Option.map_eq_some_iff.1 h;rw [List.length_append,c_U D];rfl
theorem e_k {ls:List Ly} {i:Nat} {S D:List (List Int)} (h:f_3 ls i S=some D):∃ o,D=S++[o]/\d_A (lyA ls i) (shA S i)=some o:=by
 unfold f_3 at h
 split at h
 ·cases h
 ·obtain ⟨o,H,rfl⟩:=Option.map_eq_some_iff.1 h;exact ⟨o,rfl,H⟩
theorem d_Q {ls:List Ly} {i:Nat} (h:i < ls.length):lyA ls i∈ls:=by
 unfold lyA;rw [List.getD_eq_getElem?_getD,List.getElem?_eq_getElem h];exact List.getElem_mem _
theorem d_R {S:List (List Int)} {i:Nat} (T:List (List Int)) (h:i < S.length):shA (S++T) i=shA S i:=by
 unfold shA;rw [List.getD_eq_getElem?_getD,List.getD_eq_getElem?_getD,List.getElem?_append_left h]
theorem g_5 (S:List (List Int)) (o:List Int) (i:Nat) (h:S.length=i):shA (S++[o]) i=o:=by
 subst h;unfold shA;simp
theorem InOk.out {l:Ly} {d o:List Int} (I:InOk d) (O:a_R l) (h:d_A l d=some o):InOk o:=by
 unfold d_A at h;rcases a_K O with ⟨_,k,D,H⟩|⟨_,k,D,H⟩|⟨_,k,D,H⟩|⟨_,k,D,H⟩|⟨_,k,D,H⟩ <;> rw [k] at h <;> simp at h
 ·subst h;exact .inl ⟨_,rfl,by omega,by omega⟩
 ·obtain ⟨⟨L,J⟩,rfl⟩:=h;rcases I with ⟨x,rfl,_⟩|⟨x,y,rfl,M,R⟩
  ·simp at L
  ·simp at J ⊢;exact .inr ⟨_,_,rfl,by omega,by omega,by omega⟩
 ·obtain ⟨⟨L,J⟩,rfl⟩:=h;rcases I with ⟨x,rfl,_⟩|⟨x,y,rfl,M,R⟩
  ·simp at L
  ·simp at J ⊢;refine .inr ⟨_,_,rfl,M,?_,?_⟩
   ·rw [Int.tdiv_eq_ediv_of_nonneg (by omega)];exact (Int.le_ediv_iff_mul_le (by omega)).2 (by omega)
   ·rw [Int.tdiv_eq_ediv_of_nonneg (by omega)];have:=Int.ediv_le_self l.2.1 (a:=y) (by omega);omega
 ·subst h;exact I
 ·subst h;exact I
theorem e_l {d:List Int} {ls:List Ly} (J:InOk d) (I:∀ l∈ls,a_R l):∀ {i:Nat} {S:List (List Int)},i<=ls.length->shN d ls i=some S->∀ k,k < i+1->InOk (shA S k)
 | 0,S,_,h,k,hk=>by
  cases h;obtain rfl:k=0:=by omega
  exact J
 | i+1,S,hi,h,k,hk=>by
  cases D:shN d ls i with
  | none=>rw [b_m D (Nat.le_succ i)] at h;cases h
  | some S0=>
   rw [a_G D] at h;obtain ⟨o,rfl,L⟩:=e_k h;have M:=c_U D;rcases Nat.lt_or_ge k (i+1) with H|H
   ·rw [d_R _ (by omega)];exact e_l J I (by omega) D k H
   ·rw [g_5 S0 o k (by omega)];exact (e_l J I (by omega) D i (by omega)).out (I _ (d_Q (by omega))) L
theorem c_D (x:Int):a_t [x]=x:=by simp [a_t]
theorem c_E (x y:Int):a_t [x,y]=x*y:=by simp [a_t]
theorem c_V (x y z:Int):a_t [x,y,z]=x*y*z:=by simp [a_t]
theorem a_1 {x y a b:Int} (H:1<=x/\x<=a) (D:1<=y/\y<=b):1<=x*y/\x*y<=a*b:=by
 refine ⟨?_,Int.mul_le_mul H.2 D.2 (by omega) (by omega)⟩;have:=Int.mul_le_mul H.1 D.1 (by omega) (by omega);omega
theorem InOk.prod {d:List Int} (h:InOk d):1<=a_t d/\a_t d<=4096:=by
 rcases h with ⟨x,rfl,h⟩|⟨x,y,rfl,H,D⟩
 ·rw [c_D];omega
 ·rw [c_E];have:=a_1 H D;omega
/-- How many parameters a layer has. -/
def psz (l:Ly) (d:List Int):Int:=if a_s l.1=0 then l.2.1*a_t d+l.2.1 else if a_s l.1=1 then l.2.1*d.getD 0 0*l.2.2 else 0
def b_4 (ls:List Ly) (S:List (List Int)):Nat->Int
 | 0=>0
 | i+1=>b_4 ls S i+psz (lyA ls i) (shA S i)
theorem e_D {l:Ly} {d:List Int} (I:InOk d) (L:a_R l):0<=psz l d/\psz l d<=1049600:=by
 unfold psz;have J:=I.prod;rcases a_K L with ⟨_,k,D,H⟩|⟨_,k,D,H⟩|⟨_,k,D,H⟩|⟨_,k,D,H⟩|⟨_,k,D,H⟩ <;> rw [k] <;> simp
 ·have:=a_1 D J;omega
 ·rcases I with ⟨x,rfl,h⟩|⟨x,y,rfl,M,O⟩
  ·have:=a_1 (a_1 D h) H;simp;omega
  ·have:=a_1 (a_1 D M) H;simp;omega
theorem g_6 {ls:List Ly} {S:List (List Int)}:∀ {i:Nat},(∀ k,k < i->InOk (shA S k))->(∀ k,k < i->a_R (lyA ls k))->0<=b_4 ls S i/\b_4 ls S i<=1049600*(i:Int)
 | 0,_,_=>by simp [b_4]
 | i+1,h,h2=>by
  have:=g_6 (fun k D=>h k (by omega)) (fun k D=>h2 k (by omega)) (i:=i);have H:=e_D (h i (by omega)) (h2 i (by omega));simp only [b_4];omega
/-- More than may be: the reasons, the first i layers' parameters among them. -/
def i_g (S:List (List Int)):Bool:=S.any fun s=>decide (4096 < a_t s)
def r_5 (l:Ly) (d:List Int):Bool:=(c_t l d).any fun s=>decide (4096 < a_t s)
def k_6 (ls:List Ly) (S:List (List Int)):Nat->Bool
 | 0=>false
 | i+1=>k_6 ls S i || r_5 (lyA ls i) (shA S i)
def e_O (ls:List Ly) (S:List (List Int)):Bool:=decide (16 < ls.length) || i_g S || k_6 ls S ls.length || decide (4096 < b_4 ls S ls.length)
/-- What Shapes answers: an error, shapes, how many parameters. -/
def nE (d:List Int) (ls:List Ly):Int:=if b_M d ls=true then (match shN d ls ls.length with|none=>4|some S=>if e_O ls S=true then 2 else 0) else 1
def nS (d:List Int) (ls:List Ly):List (List Int):=if nE d ls=0 then (shN d ls ls.length).getD [] else []
def nP (d:List Int) (ls:List Ly):Int:=if nE d ls=0 then b_4 ls ((shN d ls ls.length).getD []) ls.length else 0
theorem c_f (d:List Int) (ls:List Ly):b_M d ls=true↔InOk d/\∀ l∈ls,a_R l:=by
 unfold b_M;rw [Bool.and_eq_true,m_L,List.all_eq_true];simp only [decide_eq_true_eq]
theorem m_M {d:List Int} {ls:List Ly} (h:¬ b_M d ls=true):nE d ls=1:=by unfold nE;rw [if_neg h]
theorem d_i {d:List Int} {ls:List Ly} (h:b_M d ls=true) (D:shN d ls ls.length=none):nE d ls=4:=by unfold nE;rw [if_pos h,D]
theorem m_N {d:List Int} {ls:List Ly} {S:List (List Int)} (h:b_M d ls=true) (D:shN d ls ls.length=some S) (H:e_O ls S=true):nE d ls=2:=by unfold nE;rw [if_pos h,D];simp [H]
theorem k_N {d:List Int} {ls:List Ly} {S:List (List Int)} (h:b_M d ls=true) (D:shN d ls ls.length=some S) (H:e_O ls S=false):nE d ls=0/\nS d ls=S/\nP d ls=b_4 ls S ls.length:=by
 have e:nE d ls=0:=by unfold nE;rw [if_pos h,D];simp [H]
 refine ⟨e,?_,?_⟩
 ·unfold nS;rw [if_pos e,D];rfl
 ·unfold nP;rw [if_pos e,D];rfl
theorem h_3 {d:List Int} {ls:List Ly} (h:nE d ls≠0):nS d ls = []/\nP d ls=0:=⟨if_neg h,if_neg h⟩
/-- What a good net is. -/
theorem e_Z {d:List Int} {ls:List Ly} (h:nE d ls=0):∃ S,b_M d ls=true/\shN d ls ls.length=some S/\e_O ls S=false:=by
 unfold nE at h
 split at h
 ·rename_i hf
  cases D:shN d ls ls.length with
  | none=>rw [D] at h;simp at h
  | some S=>
   rw [D] at h;refine ⟨S,hf,rfl,?_⟩;cases H:e_O ls S with
   | false=>rfl
   | true=>simp [H] at h
 ·cases h
end Go.Proofs.YtjlofobnmjompaaGreatDoor.Wd
