/- A row of tensors that a call hands back: -/
import Derived.Test.YtjlofobnmjompaaGreatDoorP21
set_option linter.unusedVariables false
set_option linter.unusedSimpArgs false
set_option maxHeartbeats 16000000
set_option maxRecDepth 16000
namespace Go.Proofs.YtjlofobnmjompaaGreatDoor.Wd
open Go.RowKit Fx
/-- A tensor's two cells. -/
def TwC (W:World) (B:Nat) (t:Ten) (u:List Value):Prop:=∃ s v,u = [s,v]/\OwnK .i64 3 W B s t.1/\OwnK .i64 23 W B v t.2
def TsC (W:World) (B:Nat) (ts:List Ten) (xs:List Value):Prop:=xs.length=ts.length*2/\∀ i t,ts[i]?=some t->TwC W B t ((xs.drop (i*2)).take 2)
/-- A row of tensors of one's own. -/
def OwnTs (W:World) (B:Nat) (v:Value) (ts:List Ten):Prop:=∃ xs,W.ownsRow B 64 2 v ts.length xs/\TsC W B ts xs
theorem TwC.only {S:List TypeId} {W W':World} {B:Nat} {t:Ten} {u:List Value} (h:TwC W B t u) (D:Only S W W') (J:3∉S) (H:23∉S):TwC W' B t u:=by
 obtain ⟨s,v,e,I,E⟩:=h;exact ⟨s,v,e,I.only D J,E.only D H⟩
theorem OwnTs.only {S:List TypeId} {W W':World} {B:Nat} {v:Value} {D:List Ten} (h:OwnTs W B v D) (E:Only S W W') (L:3∉S) (I:23∉S) (M:64∉S):OwnTs W' B v D:=by
 obtain ⟨H,R,O,J⟩:=h;exact ⟨H,a_z R E M,O,fun i t U=>(J i t U).only E L I⟩
theorem OwnTs.up {W W':World} {B:Nat} {v:Value} {D:List Ten} (h:OwnTs W B v D) (E:Below W.heap.size W W'):OwnTs W' B v D:=h.only (S:=[]) (Only.of E) (by simp) (by simp) (by simp)
theorem OwnTs.nil (W:World) (B:Nat):OwnTs W B (.slice none 0 0) []:=⟨[],World.ownsRow_nil _ _ _ _,rfl,fun i t h=>by simp at h⟩
theorem OwnTs.low {W:World} {B I:Nat} {v:Value} {H:List Ten} (h:OwnTs W B v H) (D:I<=B):OwnTs W I v H:=by
 obtain ⟨M,J,V,O⟩:=h;refine ⟨M,⟨J.1,?_⟩,V,fun i t ht=>?_⟩
 ·rcases J.2 with L|⟨g,cap,E,R,hb,rest⟩
  ·exact .inl L
  ·exact .inr ⟨g,cap,E,R,Nat.le_trans D hb,rest⟩
 ·obtain ⟨s,u,e,hs,U⟩:=O i t ht;exact ⟨s,u,e,hs.low D,U.low D⟩
/-- What a walk reads of it. -/
theorem OwnTs.form {W:World} {B:Nat} {v:Value} {D:List Ten} (h:OwnTs W B v D):∃ p c,v = .slice p D.length c/\D.length<=c:=by
 obtain ⟨L,J,_⟩:=h;rcases J.2 with ⟨rfl,I⟩|⟨g,cap,H,rfl,_,_,E,_⟩
 ·exact ⟨none,0,by rw [I],by omega⟩
 ·exact ⟨_,_,rfl,E⟩
theorem OwnTs.at {W:World} {B n c:Nat} {p:Option Addr} {H:List Ten} (h:OwnTs W B (.slice p n c) H) (i:Nat) (t:Ten) (J:H[i]?=some t):
  ∃ q s u,p=some ⟨q,0,none⟩/\W.cell? ⟨q,i*2,none⟩=some s/\W.cell? ⟨q,i*2+1,none⟩=some u/\OwnK .i64 3 W B s t.1/\OwnK .i64 23 W B u t.2:=by
 obtain ⟨I,L,hl,V⟩:=h;obtain ⟨s,u,e,hs,R⟩:=V i t J;have U:i < H.length:=(List.getElem?_eq_some_iff.1 J).1
 have D:∀ j v,((I.drop (i*2)).take 2)[j]?=some v->I[i*2+j]?=some v:=fun j v h=>by
  rw [List.getElem?_take] at h
  split at h
  ·rw [List.getElem?_drop] at h;exact h
  ·cases h
 rw [e] at D;rcases L.2 with ⟨_,h0⟩|⟨g,cap,M,O,hb,hg,rest⟩
 ·omega
 ·cases O
  have E:∀ j v,I[j]?=some v->W.cell? ⟨g,j,none⟩=some v:=fun j v h=>by
   have:=L.cells (g:=g) rfl j v h;rw [a_u,Nat.zero_add] at this;exact this
  exact ⟨g,s,u,rfl,E _ _ (D 0 _ rfl),E _ _ (D 1 _ rfl),hs,R⟩
theorem c_T {w D:World} {B:Nat} (h:Below B w D):Below B w D.drew:=h.trans ⟨rfl,rfl,rfl,Nat.le_refl _,fun _ _=>rfl⟩
theorem s_7 {w W:World} {B b E:Nat} {s t I H s0 t0 s1 t1:Value} {D X D' X':List Int} (h6:Cel W b s0 t0) (h7:Cel W E s1 t1) (J:b≠E) (hB:Below w.heap.size w W) (hb:w.heap.size<=b) (V:w.heap.size<=E) (M:b < B) (L:E < B)
  (hs:OwnK .i64 3 W B s D) (ht:OwnK .i64 23 W B t X) (aa:OwnK .i64 3 W B I D') (R:OwnK .i64 23 W B H X'):
  (Cel (set2 (set2 W b s t) E I H) b s t/\Cel (set2 (set2 W b s t) E I H) E I H)/\TRes (set2 (set2 W b s t) E I H) w.heap.size (.agg #[s,t]) D X/\TRes (set2 (set2 W b s t) E I H) w.heap.size (.agg #[I,H]) D' X'/\Below w.heap.size w (set2 (set2 W b s t) E I H):=by
 have U:=Stay.set2 (g:=b) W s t;have e2:=Stay.set2 (g:=E) (set2 W b s t) I H;have O:∀ {e:TypeId} {v:Value} {l:List Int},OwnK .i64 e W B v l->OwnK .i64 e (set2 (set2 W b s t) E I H) w.heap.size v l:=fun h=>((h.stay U (h.off M)).stay e2 ((h.stay U (h.off M)).off L)).low (by omega);exact ⟨⟨(h6.set s t).stay e2 J,(h7.stay U (Ne.symm J)).set I H⟩,⟨_,_,rfl,O hs,O ht⟩,⟨_,_,rfl,O aa,O R⟩,a_8 (a_8 hB b hb s t) E V I H⟩
/-- What a return of two tensors leaves. -/
theorem r_3 {w W Z U:World} {B b E:Nat} {s t M L s0 t0 s1 t1:Value} {D X D' X':List Int} (hU:set2 (set2 W b s t) E M L=U) (J:Below U.heap.size U Z) (h6:Cel W b s0 t0) (h7:Cel W E s1 t1) (O:b≠E) (hB:Below w.heap.size w W) (hb:w.heap.size<=b) (V:w.heap.size<=E) (ab:b < B) (I:E < B)
  (hs:OwnK .i64 3 W B s D) (ht:OwnK .i64 23 W B t X) (aa:OwnK .i64 3 W B M D') (R:OwnK .i64 23 W B L X'):
  Hid (TRes Z w.heap.size (.agg #[s,t]) D X/\TRes Z w.heap.size (.agg #[M,L]) D' X'/\Below w.heap.size w Z)/\(Z.cell? ⟨b,0,none⟩=some s/\Z.cell? ⟨b,1,none⟩=some t)/\Z.cell? ⟨E,0,none⟩=some M/\Z.cell? ⟨E,1,none⟩=some L:=by
 obtain ⟨⟨c6,c7⟩,r6,r7,H⟩:=s_7 (w:=w) h6 h7 O hB hb V ab I hs ht aa R;rw [hU] at c6 c7 r6 r7 H;have d6:=c6.up J;have d7:=c7.up J;exact ⟨⟨r6.up J,r7.up J,a_c H J⟩,⟨d6.1,d6.2.1⟩,d7.1,d7.2.1⟩
theorem s_8 {W:World} {b:Nat} {H I L J M O D E:Value} {e:TypeId} (h:W.heap[b]?=some (.cells #[H,I,L,J,M,O] e (0,0))):((W.setCell ⟨b,4,none⟩ D).setCell ⟨b,5,none⟩ E).heap[b]?=some (.cells #[H,I,L,J,D,E] e (0,0)):=by
 rw [a_n (a_n h)];rfl
theorem m_N (B tb:Nat) (ns:List Nd) (hG:NodesG ns) (i:Nat) (nd:Nd) (hi:ns[i]?=some nd) (w:World) (hT:TapC w B tb ns):
  Calls Tryz.prog 47 #[.pointer (some ⟨tb,0,none⟩),.int .i64 (i:Int)] w fun e w'=>∃ s t,e = .returned (.tuple #[.agg #[.int .i64 nd.op,.int .i64 nd.a,.int .i64 nd.b,.int .i64 nd.k,s,t],.bool true])/\OwnK .i64 3 w' w.heap.size s nd.D/\OwnK .i64 23 w' w.heap.size t nd.X/\Below w.heap.size w w':=by
 have am:Hid (TapC w B tb ns):=hT;obtain ⟨pL,cL,ar,hv,ho,ak,ah⟩:=Tap.head hT;obtain ⟨N,eN⟩:∃ N,ns.length=N:=⟨_,rfl⟩
 rw [eN] at hv ho ah;have L:=(b_G hv).1;have ap:i < N:=by rw [<- eN];exact (List.getElem?_eq_some_iff.1 hi).1
 obtain ⟨q,aq,s_,t_,eq,aj,c0,c1,c2,c3,c4,c5,hs,ht⟩:=d_v ho ak eN i ap;rw [hi] at aj;cases aj;obtain ⟨pA,nA,cA,rfl⟩:=hs.form_;obtain ⟨qA,mA,eA,rfl⟩:=ht.form_;subst eq;have hq:decide (0<=(i:Int)/\(i:Int) < (ns.length:Int))=true:=decide_eq_true (by omega);have HN:Hid (Nums .i64 w (.slice pA nA cA) nd.D/\Nums .i64 w (.slice qA mA eA) nd.X/\isP nd.D nd.X):=⟨hs.nums,ht.nums,(hG nd (f_K hi)).1⟩
 have HC:Hid (w.cell? ⟨tb,0,none⟩=some (.slice (some ⟨q,0,none⟩) N cL)/\w.cell? ⟨q,i*6,none⟩=some (.int .i64 nd.op)/\w.cell? ⟨q,i*6+1,none⟩=some (.int .i64 nd.a)/\w.cell? ⟨q,i*6+2,none⟩=some (.int .i64 nd.b)/\w.cell? ⟨q,i*6+3,none⟩=some (.int .i64 nd.k)/\w.cell? ⟨q,i*6+4,none⟩=some (.slice pA nA cA)/\w.cell? ⟨q,i*6+5,none⟩=some (.slice qA mA eA)):=⟨L,c0,c1,c2,c3,c4,c5⟩
 have d2:(i:Int) < (N:Int):=by omega
 obtain ⟨op,a,b,k,D,X⟩:=nd;simp only [] at HC HN ⊢;clear hT hv ho ak ah hs ht c0 c1 c2 c3 c4 c5 L hG hi;go_enter Tryz.func47,Tryz.ntmps47;go_wp2_with fail
 generalize aa:World.alloc _ _=W0;have V:W0.heap[w.heap.size]?=some (.cells #[.int .i64 0,.int .i64 0,.int .i64 0,.int .i64 0,.slice none 0 0,.slice none 0 0] 109 (0,0)):=by rw [<- aa];exact heap_alloc_new _ _
 have E:Hid (Below w.heap.size w W0):=by show Below _ _ _;rw [<- aa];exact a_b _ _
 clear aa;refine (c_R B tb ns (i:Int) true hq W0 (am.out.up E.out)).mono ?_;rintro e H ⟨rfl,an⟩;subst an;clear hq;have c:=a_d HC.out.1 E.out;have c0:=a_d HC.out.2.1 E.out;have c1:=a_d HC.out.2.2.1 E.out;have c2:=a_d HC.out.2.2.2.1 E.out;have c3:=a_d HC.out.2.2.2.2.1 E.out;have c4:=a_d HC.out.2.2.2.2.2.1 E.out;have c5:=a_d HC.out.2.2.2.2.2.2 E.out;have k0:=a_a c;have k1:=a_a c0;go_wp2_with fail
 generalize af:World.alloc _ _=W2;have ab:W2.heap[H.heap.size]?=some (.cells #[.int .i64 op,.int .i64 a,.int .i64 b,.int .i64 k,.slice pA nA cA,.slice qA mA eA] 109 (0,0)):=by rw [<- af];exact heap_alloc_new _ _
 have I:Hid (Below H.heap.size H W2/\Below w.heap.size w W2):=by
  have h:=a_b H (.cells #[.int .i64 op,.int .i64 a,.int .i64 b,.int .i64 k,.slice pA nA cA,.slice qA mA eA] 109);rw [af] at h;exact ⟨h,a_c E.out h⟩
 have ag:W2.heap[w.heap.size]?=some (.cells #[.int .i64 0,.int .i64 0,.int .i64 0,.int .i64 0,.slice none 0 0,.slice none 0 0] 109 (0,0)):=by rw [I.out.1.block _ (a_i V)];exact V
 clear af c c0 c1 c2 c3 c4 c5 k0 k1;refine (f_M pA qA nA cA mA eA D X HN.out.2.2 W2 (HN.out.1.up I.out.2) (HN.out.2.1.up I.out.2)).mono ?_;rintro e w3 ⟨v3,rfl,⟨s3,t3,rfl,hs,ht⟩,O⟩;obtain ⟨U,M,R,rfl⟩:=hs.form_;obtain ⟨pb,nb,cb,rfl⟩:=ht.form_;have J:w3.heap[H.heap.size]?=some (.cells #[.int .i64 op,.int .i64 a,.int .i64 b,.int .i64 k,.slice pA nA cA,.slice qA mA eA] 109 (0,0)):=by rw [O.block _ (a_i ab)];exact ab
 have ad:w3.heap[w.heap.size]?=some (.cells #[.int .i64 0,.int .i64 0,.int .i64 0,.int .i64 0,.slice none 0 0,.slice none 0 0] 109 (0,0)):=by rw [O.block _ (a_i ag)];exact ag
 have HO:Hid (OwnK .i64 3 w3 w.heap.size (.slice U M R) D/\OwnK .i64 23 w3 w.heap.size (.slice pb nb cb) X):=⟨hs.low I.out.2.size,ht.low I.out.2.size⟩
 have ao:Hid (Below w.heap.size w w3):=a_c I.out.2 O;have ai:w.heap.size < H.heap.size:=a_i V;clear hs ht O ab ag V HN HC d2 am;have n1:H.heap.size≠w.heap.size:=by omega
 have n2:w.heap.size≠H.heap.size:=by omega
 obtain ⟨⟨x0,x1,x2,x3,x4,x5⟩,xf⟩:=g_m J;obtain ⟨⟨r0,r1,r2,r3,r4,r5⟩,rf⟩:=g_m ad;have k1:=a_i J;have k2:=a_i ad
 have ae:Hid ((((w3.setCell ⟨H.heap.size,4,none⟩ (.slice U M R)).setCell ⟨H.heap.size,5,none⟩ (.slice pb nb cb)).heap[H.heap.size]?=some (.cells #[.int .i64 op,.int .i64 a,.int .i64 b,.int .i64 k,.slice U M R,.slice pb nb cb] 109 (0,0))/\((w3.setCell ⟨H.heap.size,4,none⟩ (.slice U M R)).setCell ⟨H.heap.size,5,none⟩ (.slice pb nb cb)).heap[w.heap.size]?=some (.cells #[.int .i64 0,.int .i64 0,.int .i64 0,.int .i64 0,.slice none 0 0,.slice none 0 0] 109 (0,0)))/\Below w.heap.size w ((w3.setCell ⟨H.heap.size,4,none⟩ (.slice U M R)).setCell ⟨H.heap.size,5,none⟩ (.slice pb nb cb))/\Only [109] w3 ((w3.setCell ⟨H.heap.size,4,none⟩ (.slice U M R)).setCell ⟨H.heap.size,5,none⟩ (.slice pb nb cb))):=by
  refine ⟨⟨s_8 J,?_⟩,?_,?_⟩
  ·rw [a_U _ _ _ _ _ (by omega),a_U _ _ _ _ _ (by omega)];exact ad
  ·exact (ao.out.setCell (p:=⟨H.heap.size,4,none⟩) (Nat.le_of_lt ai) _).setCell (p:=⟨H.heap.size,5,none⟩) (Nat.le_of_lt ai) _
  ·exact (Only.set J (by simp)).trans (Only.set (a_n J) (by simp))
 go_wp2;generalize ac:World.setCell _ _ _=W9;have h0:=ae.out.1.2;have h1:=a_n (o:=0) (x:=(.int .i64 op)) h0;have h2:=a_n (o:=1) (x:=(.int .i64 a)) h1;have h3:=a_n (o:=2) (x:=(.int .i64 b)) h2;have h4:=a_n (o:=3) (x:=(.int .i64 k)) h3;have h5:=a_n (o:=4) (x:=(.slice U M R)) h4
 have H9:W9.heap[w.heap.size]?=some (.cells #[.int .i64 op,.int .i64 a,.int .i64 b,.int .i64 k,.slice U M R,.slice pb nb cb] 109 (0,0)):=by
  rw [<- ac];exact (a_n h5).trans rfl
 have B9:Below w.heap.size w W9:=by
  rw [<- ac];exact ((((((ae.out.2.1.setCell (p:=⟨w.heap.size,0,none⟩) (Nat.le_refl _) _).setCell (p:=⟨w.heap.size,1,none⟩) (Nat.le_refl _) _).setCell (p:=⟨w.heap.size,2,none⟩) (Nat.le_refl _) _).setCell (p:=⟨w.heap.size,3,none⟩) (Nat.le_refl _) _).setCell (p:=⟨w.heap.size,4,none⟩) (Nat.le_refl _) _).setCell (p:=⟨w.heap.size,5,none⟩) (Nat.le_refl _) _)
 have O9:Only [109] w3 W9:=by
  rw [<- ac];exact ((((((ae.out.2.2.trans (Only.set h0 (by simp))).trans (Only.set h1 (by simp))).trans (Only.set h2 (by simp))).trans (Only.set h3 (by simp))).trans (Only.set h4 (by simp))).trans (Only.set h5 (by simp)))
 obtain ⟨⟨z0,z1,z2,z3,z4,z5⟩,_⟩:=g_m H9;exact bodyPost_ret (v:=.tuple #[.agg #[.int .i64 op,.int .i64 a,.int .i64 b,.int .i64 k,.slice U M R,.slice pb nb cb],.bool true]) (by simp [results,Tryz.results47,go_sem,z0,z1,z2,z3,z4,z5]) rfl ⟨_,_,rfl,HO.out.1.only O9 (by decide),HO.out.2.only O9 (by decide),B9⟩
theorem m_O (B I:Nat) (ns:List Nd) (i:Int) (hi:i < 0∨(ns.length:Int)<=i) (w:World) (O:TapC w B I ns):
  Calls Tryz.prog 47 #[.pointer (some ⟨I,0,none⟩),.int .i64 i] w fun e w'=>e = .returned (.tuple #[.agg #[.int .i64 0,.int .i64 0,.int .i64 0,.int .i64 0,.slice none 0 0,.slice none 0 0],.bool false])/\Below w.heap.size w w':=by
 have L:Hid (TapC w B I ns):=O;have R:decide (0<=i/\i < (ns.length:Int))=false:=decide_eq_false (by omega);clear O hi;go_enter Tryz.func47,Tryz.ntmps47;go_wp2_with fail
 generalize D:World.alloc _ _=W0;have M:W0.heap[w.heap.size]?=some (.cells #[.int .i64 0,.int .i64 0,.int .i64 0,.int .i64 0,.slice none 0 0,.slice none 0 0] 109 (0,0)):=by rw [<- D];exact heap_alloc_new _ _
 have H:Hid (Below w.heap.size w W0):=by show Below _ _ _;rw [<- D];exact a_b _ _
 clear D;refine (c_R B I ns i false R W0 (L.out.up H.out)).mono ?_;rintro e w1 ⟨rfl,J⟩;subst J;clear R;obtain ⟨⟨r0,r1,r2,r3,r4,r5⟩,rf⟩:=g_m M;have k2:=a_i M;go_wp2;generalize E:World.setCell _ _ _=W9;have h1:=a_n (o:=0) (x:=(.int .i64 0)) M;have h2:=a_n (o:=1) (x:=(.int .i64 0)) h1;have h3:=a_n (o:=2) (x:=(.int .i64 0)) h2;have h4:=a_n (o:=3) (x:=(.int .i64 0)) h3;have h5:=a_n (o:=4) (x:=(.slice none 0 0)) h4
 have H9:W9.heap[w.heap.size]?=some (.cells #[.int .i64 0,.int .i64 0,.int .i64 0,.int .i64 0,.slice none 0 0,.slice none 0 0] 109 (0,0)):=by
  rw [<- E];exact (a_n h5).trans rfl
 have U:Below w.heap.size w W9:=by
  rw [<- E];exact ((((((H.out.setCell (p:=⟨w.heap.size,0,none⟩) (Nat.le_refl _) _).setCell (p:=⟨w.heap.size,1,none⟩) (Nat.le_refl _) _).setCell (p:=⟨w.heap.size,2,none⟩) (Nat.le_refl _) _).setCell (p:=⟨w.heap.size,3,none⟩) (Nat.le_refl _) _).setCell (p:=⟨w.heap.size,4,none⟩) (Nat.le_refl _) _).setCell (p:=⟨w.heap.size,5,none⟩) (Nat.le_refl _) _)
 obtain ⟨⟨z0,z1,z2,V,z4,z5⟩,_⟩:=g_m H9;exact bodyPost_ret (v:=.tuple #[.agg #[.int .i64 0,.int .i64 0,.int .i64 0,.int .i64 0,.slice none 0 0,.slice none 0 0],.bool false]) (by simp [results,Tryz.results47,go_sem,z0,z1,z2,V,z4,z5]) rfl ⟨rfl,U⟩
theorem b_4 (B tb:Nat) (ns:List Nd) (hG:NodesG ns) (i:Nat) (nd:Nd) (hi:ns[i]?=some nd) (w:World) (hT:TapC w B tb ns):
  Calls Tryz.prog 25 #[.pointer (some ⟨tb,0,none⟩),.int .i64 (i:Int)] w fun e V=>∃ v,e = .returned (.tuple #[v,.bool true])/\TRes V w.heap.size v nd.D nd.X/\Below w.heap.size w V:=by
 have E:Hid (∀ W,Below w.heap.size w W->Calls Tryz.prog 47 #[.pointer (some ⟨tb,0,none⟩),.int .i64 (i:Int)] W fun e V=>∃ s t,e = .returned (.tuple #[.agg #[.int .i64 nd.op,.int .i64 nd.a,.int .i64 nd.b,.int .i64 nd.k,s,t],.bool true])/\OwnK .i64 3 V W.heap.size s nd.D/\OwnK .i64 23 V W.heap.size t nd.X/\Below W.heap.size W V):=fun W hW=>m_N B tb ns hG i nd hi W (hT.up hW);obtain ⟨op,a,b,k,D,X⟩:=nd;simp only [] at E ⊢;clear hT hi hG;go_enter Tryz.func25,Tryz.ntmps25;go_wp2_with fail
 generalize M:World.alloc _ _=W0;have U:Hid (Below w.heap.size w W0):=by show Below _ _ _;rw [<- M];exact a_b _ _
 have XR:Hid (Cel W0 w.heap.size (.slice none 0 0) (.slice none 0 0)):=a_F M (by simp [go_sem]);clear M;refine (E.out W0 U.out).mono ?_;rintro e w1 ⟨s,t,rfl,hs,ht,aa⟩;obtain ⟨H,L,I,rfl⟩:=hs.form_;obtain ⟨R,O,J,rfl⟩:=ht.form_;have HF:Hid (TRes (set2 w1 w.heap.size (.slice H L I) (.slice R O J)) w.heap.size (.agg #[.slice H L I,.slice R O J]) D X/\Below w.heap.size w (set2 w1 w.heap.size (.slice H L I) (.slice R O J))):=⟨(TRes.set hs ht (a_a XR.out.1)).low U.out.size,a_k (a_c U.out aa) _ (Nat.le_refl _) _ _⟩
 clear hs ht E;have xr:=XR.out.up aa;have cf:=xr.set (.slice H L I) (.slice R O J);obtain ⟨r0,r1,r2,r3⟩:=xr;have kq:=a_a r0;have z0:=a_d cf.1 (a_b _ (.cells #[.int .i64 op,.int .i64 a,.int .i64 b,.int .i64 k,.slice H L I,.slice R O J] 109));have z1:=a_d cf.2.1 (a_b _ (.cells #[.int .i64 op,.int .i64 a,.int .i64 b,.int .i64 k,.slice H L I,.slice R O J] 109));clear cf;go_wp2;exact bodyPost_ret (v:=.tuple #[.agg #[.slice H L I,.slice R O J],.bool true]) (by simp [results,Tryz.results25,go_sem,z0,z1]) rfl ⟨_,rfl,HF.out.1.up (a_b _ _),a_c HF.out.2 (a_b _ _)⟩
theorem e_Y (B J:Nat) (ns:List Nd) (i:Int) (U:i < 0∨(ns.length:Int)<=i) (w:World) (O:TapC w B J ns):
  Calls Tryz.prog 25 #[.pointer (some ⟨J,0,none⟩),.int .i64 i] w fun e M=>e = .returned (.tuple #[.agg #[.slice none 0 0,.slice none 0 0],.bool false])/\Below w.heap.size w M:=by
 have E:Hid (∀ W,Below w.heap.size w W->Calls Tryz.prog 47 #[.pointer (some ⟨J,0,none⟩),.int .i64 i] W fun e M=>e = .returned (.tuple #[.agg #[.int .i64 0,.int .i64 0,.int .i64 0,.int .i64 0,.slice none 0 0,.slice none 0 0],.bool false])/\Below W.heap.size W M):=fun W hW=>m_O B J ns i U W (O.up hW);clear O U;go_enter Tryz.func25,Tryz.ntmps25;go_wp2_with fail
 generalize D:World.alloc _ _=W0;have H:Hid (Below w.heap.size w W0):=by show Below _ _ _;rw [<- D];exact a_b _ _
 have XR:Hid (Cel W0 w.heap.size (.slice none 0 0) (.slice none 0 0)):=a_F D (by simp [go_sem]);clear D;refine (E.out W0 H.out).mono ?_;rintro e w1 ⟨rfl,I⟩;have V:Hid (Below w.heap.size w (set2 w1 w.heap.size (.slice none 0 0) (.slice none 0 0))):=a_k (a_c H.out I) _ (Nat.le_refl _) _ _;clear E;have R:=XR.out.up I;have L:=R.set (.slice none 0 0) (.slice none 0 0);obtain ⟨r0,r1,r2,r3⟩:=R;have kq:=a_a r0;have z0:=a_d L.1 (a_b _ (.cells #[.int .i64 0,.int .i64 0,.int .i64 0,.int .i64 0,.slice none 0 0,.slice none 0 0] 109));have z1:=a_d L.2.1 (a_b _ (.cells #[.int .i64 0,.int .i64 0,.int .i64 0,.int .i64 0,.slice none 0 0,.slice none 0 0] 109));clear L;go_wp2;exact bodyPost_ret (v:=.tuple #[.agg #[.slice none 0 0,.slice none 0 0],.bool false]) (by simp [results,Tryz.results25,go_sem,z0,z1]) rfl ⟨rfl,a_c V.out (a_b _ _)⟩
/-- What giveA and giveB tell at an Op, if it is one. -/
def GvC (op:Int):Prop:=(2<=op/\op<=14->GvP 88 onA op)/\(d_A op->GvP 89 onB op)
theorem GvC.leaf:GvC 1:=⟨fun h=>absurd h (by omega),fun h=>absurd h (by decide)⟩
/-- Every node's own number is Go's; what its Op gives is known. -/
def NodesK (ns:List Nd):Prop:=∀ nd,nd∈ns->InR nd.k/\GvC nd.op
theorem NodesK.of {ns:List Nd} (h:(ns.all fun nd=>decide (-9223372036854775808<=nd.k) && decide (nd.k<=9223372036854775807))=true) (E:∀ nd,nd∈ns->GvC nd.op):NodesK ns:=fun nd D=>by
 have:=List.all_eq_true.1 h nd D;simp only [Bool.and_eq_true,decide_eq_true_eq] at this;refine ⟨?_,E nd D⟩;unfold InR;omega
theorem NodesK.nil:NodesK []:=fun nd h=>by simp at h
theorem NodesK.leaf {ns:List Nd} {d x:List Int} (h:NodesK ns):NodesK (c_Q ns d x):=by
 unfold c_Q
 split
 ·intro nd E;rcases List.mem_append.1 E with D|D
  ·exact h nd D
  ·simp at D;subst D;refine ⟨?_,GvC.leaf⟩;show InR 0;unfold InR;omega
 ·exact h
theorem NodesK.do {ns:List Nd} {op a b k:Int} (h:NodesK ns) (E:InR k) (H:GvC op):NodesK (doN ns op a b k):=by
 unfold doN
 split
 ·intro nd I;rcases List.mem_append.1 I with D|D
  ·exact h nd D
  ·simp at D;subst D;refine ⟨?_,H⟩;show InR (dK op k);unfold dK
   split
   ·exact E
   ·unfold InR;omega
 ·exact h
theorem q_H (k:Int) (a b g:Ten):onA 1 k a b g=([],[]):=by simp [onA]
theorem p_l {op:Int} (h:¬ d_A op) (k:Int) (a b g:Ten):onB op k a b g=([],[]):=by
 have J:op≠2:=fun e=>h (.inl e);have I:op≠3:=fun e=>h (.inr (.inl e));have E:op≠4:=fun e=>h (.inr (.inr (.inl e)));have H:op≠6:=fun e=>h (.inr (.inr (.inr (.inl e))));have D:op≠12:=fun e=>h (.inr (.inr (.inr (.inr e))));simp [onB,J,I,E,H,D]
/-- What Value tells of any number. -/
theorem o_B (B E:Nat) (ns:List Nd) (M:NodesG ns) (i:Int) (w:World) (J:TapC w B E ns):
  Calls Tryz.prog 25 #[.pointer (some ⟨E,0,none⟩),.int .i64 i] w fun e H=>∃ v q,e = .returned (.tuple #[v,.bool q])/\TRes H w.heap.size v (if 0<=i/\i < (ns.length:Int) then (ndN ns i).D else []) (if 0<=i/\i < (ns.length:Int) then (ndN ns i).X else [])/\Below w.heap.size w H:=by
 by_cases h:0<=i/\i < (ns.length:Int)
 ·obtain ⟨j,rfl⟩:∃ j:Nat,i=(j:Int):=⟨i.toNat,by omega⟩
  rw [if_pos h,if_pos h];refine (b_4 B E ns M j _ (c_S (by omega)) w J).mono ?_;rintro e H ⟨v,rfl,L,I⟩;exact ⟨v,true,rfl,L,I⟩
 ·rw [if_neg h,if_neg h];refine (e_Y B E ns i (by omega) w J).mono ?_;rintro e H ⟨rfl,I⟩;exact ⟨_,false,rfl,TRes.none _ _,I⟩
theorem m_P (B tb:Nat) (ns:List Nd) (hG:NodesG ns) (hV:NodesV ns) (aD:NodesK ns) (i:Nat) (op a b k:Int) (D X:List Int) (hi:ns[i]?=some ⟨op,a,b,k,D,X⟩) (ps pt p p2:Option Addr) (O cs nt ct n c n2 c2:Nat) (g:Ten) (hg:b_d g) (eg:g.1=D) (aT:n2<=c2) (w:World) (hT:TapC w B tb ns) (aG:Hid (Tz w)) (h1:Nums .i64 w (.slice p n c) g.1) (h2:Nums .i64 w (.slice p2 n2 c2) g.2):
  Calls Tryz.prog 68 #[.pointer (some ⟨tb,0,none⟩),.agg #[.int .i64 op,.int .i64 a,.int .i64 b,.int .i64 k,.slice ps O cs,.slice pt nt ct],.agg #[.slice p n c,.slice p2 n2 c2]] w fun e w'=>∃ u v,e = .returned (.tuple #[u,v,.int .i64 0])/\TRes w' w.heap.size u (onA op k (aOf ns ⟨op,a,b,k,D,X⟩) (bOf ns ⟨op,a,b,k,D,X⟩) g).1 (onA op k (aOf ns ⟨op,a,b,k,D,X⟩) (bOf ns ⟨op,a,b,k,D,X⟩) g).2/\TRes w' w.heap.size v (onB op k (aOf ns ⟨op,a,b,k,D,X⟩) (bOf ns ⟨op,a,b,k,D,X⟩) g).1 (onB op k (aOf ns ⟨op,a,b,k,D,X⟩) (bOf ns ⟨op,a,b,k,D,X⟩) g).2/\Below w.heap.size w w':=by
 have aJ:InR k:=(aD _ (f_K hi)).1;have a0:GvC op:=(aD _ (f_K hi)).2;obtain ⟨RA,aq⟩:∃ R,onA op k (aOf ns ⟨op,a,b,k,D,X⟩) (bOf ns ⟨op,a,b,k,D,X⟩) g=R:=⟨_,rfl⟩
 obtain ⟨RB,aj⟩:∃ R,onB op k (aOf ns ⟨op,a,b,k,D,X⟩) (bOf ns ⟨op,a,b,k,D,X⟩) g=R:=⟨_,rfl⟩
 have bi:i < ns.length:=(List.getElem?_eq_some_iff.1 hi).1
 obtain ⟨ta,I,bd,be,a2,a1⟩:∃ ta I:Ten,
   Hid (∀ W,Below w.heap.size w W->Calls Tryz.prog 25 #[.pointer (some ⟨tb,0,none⟩),.int .i64 a] W fun e w'=>∃ v q,e = .returned (.tuple #[v,.bool q])/\TRes w' W.heap.size v ta.1 ta.2/\Below W.heap.size W w')
   /\ Hid (∀ W,Below w.heap.size w W->Calls Tryz.prog 25 #[.pointer (some ⟨tb,0,none⟩),.int .i64 b] W fun e w'=>∃ v q,e = .returned (.tuple #[v,.bool q])/\TRes w' W.heap.size v I.1 I.2/\Below W.heap.size W w')
   /\ Hid (∀ W U p4 p5 p6 n3 V E H n5 c5 M L,Below w.heap.size w W->Nums .i64 W (.slice U n3 V) ta.1->Nums .i64 W (.slice p4 E H) ta.2->Nums .i64 W (.slice p5 n5 c5) I.1->Nums .i64 W (.slice p6 M L) I.2->E<=H->M<=L->Calls Tryz.prog 88 #[.agg #[.int .i64 op,.int .i64 a,.int .i64 b,.int .i64 k,.slice ps O cs,.slice pt nt ct],.agg #[.slice U n3 V,.slice p4 E H],.agg #[.slice p5 n5 c5,.slice p6 M L],.agg #[.slice p n c,.slice p2 n2 c2]] W fun e w'=>∃ v',e = .returned (.tuple #[v',.int .i64 0])/\TRes w' W.heap.size v' RA.1 RA.2/\Below W.heap.size W w')
   /\ Hid (∀ W U p4 p5 p6 n3 V E H n5 c5 M L,Below w.heap.size w W->Nums .i64 W (.slice U n3 V) ta.1->Nums .i64 W (.slice p4 E H) ta.2->Nums .i64 W (.slice p5 n5 c5) I.1->Nums .i64 W (.slice p6 M L) I.2->E<=H->M<=L->Calls Tryz.prog 89 #[.agg #[.int .i64 op,.int .i64 a,.int .i64 b,.int .i64 k,.slice ps O cs,.slice pt nt ct],.agg #[.slice U n3 V,.slice p4 E H],.agg #[.slice p5 n5 c5,.slice p6 M L],.agg #[.slice p n c,.slice p2 n2 c2]] W fun e w'=>∃ v',e = .returned (.tuple #[v',.int .i64 0])/\TRes w' W.heap.size v' RB.1 RB.2/\Below W.heap.size W w'):=by
  have cv:=fun (j:Int) W (hW:Below w.heap.size w W)=>o_B B tb ns hG j W (hT.up hW);by_cases a4:op=1
  ·subst a4;rw [q_H] at aq;rw [p_l (by decide)] at aj;subst aq aj;exact ⟨((if 0<=a/\a < (ns.length:Int) then (ndN ns a).D else []),(if 0<=a/\a < (ns.length:Int) then (ndN ns a).X else [])),((if 0<=b/\b < (ns.length:Int) then (ndN ns b).D else []),(if 0<=b/\b < (ns.length:Int) then (ndN ns b).X else [])),fun W hW=>cv a W hW,fun W hW=>cv b W hW,fun W U p4 p5 p6 n3 V E H n5 c5 M L hW _ _ _ _ _ _=>q_G 1 (by decide) ps pt U p4 p5 p6 p p2 O cs nt ct n3 V E H n5 c5 M L n c n2 c2 a b k W,fun W U p4 p5 p6 n3 V E H n5 c5 M L hW _ _ _ _ _ _=>m_M 1 (by decide) ps pt U p4 p5 p6 p p2 O cs nt ct n3 V E H n5 c5 M L n c n2 c2 a b k W⟩
  ·obtain ⟨ok,ho,ha,hb,a3⟩:=OkP.of hG hV hi a4 hg eg;simp only [] at ok ho ha hb a3;have ba:=cv a;rw [if_pos ⟨ha.1,by omega⟩,if_pos ⟨ha.1,by omega⟩] at ba;have a9:=cv b
   have eb:(if 0<=b/\b < (ns.length:Int) then (ndN ns b).D else [])=(bOf ns ⟨op,a,b,k,D,X⟩).1/\(if 0<=b/\b < (ns.length:Int) then (ndN ns b).X else [])=(bOf ns ⟨op,a,b,k,D,X⟩).2:=by
    show _=dD ns op b/\_=dX ns op b;unfold dD dX;by_cases ht:d_A op
    ·have:=hb ht;rw [if_pos ht,if_pos ht,if_pos ⟨this.1,by omega⟩,if_pos ⟨this.1,by omega⟩];exact ⟨rfl,rfl⟩
    ·have:=a3 ht;rw [if_neg ht,if_neg ht,if_neg (by omega),if_neg (by omega)];exact ⟨rfl,rfl⟩
   rw [eb.1,eb.2] at a9;refine ⟨aOf ns ⟨op,a,b,k,D,X⟩,bOf ns ⟨op,a,b,k,D,X⟩,ba,a9,fun W U p4 p5 p6 n3 V E H n5 c5 M L hW u1 u2 u3 u4 u5 u6=>?_,fun W U p4 p5 p6 n3 V E H n5 c5 M L hW u1 u2 u3 u4 u5 u6=>?_⟩
   ·rw [<- aq];exact a0.1 ho ps pt U p4 p5 p6 p p2 O cs nt ct n3 V E H n5 c5 M L n c n2 c2 a b k _ _ g aJ ok u5 u6 aT W (Hid.up_tz aG hW) u1 u2 u3 u4 (h1.up hW) (h2.up hW)
   ·rw [<- aj];by_cases ht:d_A op
    ·exact a0.2 ht ps pt U p4 p5 p6 p p2 O cs nt ct n3 V E H n5 c5 M L n c n2 c2 a b k _ _ g aJ ok u5 u6 aT W (Hid.up_tz aG hW) u1 u2 u3 u4 (h1.up hW) (h2.up hW)
    ·rw [p_l ht];exact m_M op ht ps pt U p4 p5 p6 p p2 O cs nt ct n3 V E H n5 c5 M L n c n2 c2 a b k W
 rw [aq,aj];clear aq aj aJ a0 bi hG hV aD hi hg eg aT hT aG h1 h2;go_enter Tryz.func68,Tryz.ntmps68;go_wp2_with fail
 generalize af:World.alloc _ _=W0;have a7:=b_W (w:=w) af (by go_grown)
 have XN:Hid (W0.heap[w.heap.size]?=some (.cells #[.int .i64 op,.int .i64 a,.int .i64 b,.int .i64 k,.slice ps O cs,.slice pt nt ct] 109 (0,0))):=by
  show _=_;rw [<- af];exact ((a_b _ _).block _ (by simp;try omega)).trans (((a_b _ _).block _ (by simp;try omega)).trans (((a_b _ _).block _ (by simp;try omega)).trans (heap_alloc_new _ _)))
 have XG:Hid (Cel W0 (w.heap.size+1) (.slice p n c) (.slice p2 n2 c2)):=a_F af (by simp [go_sem]);have X6:Hid (Cel W0 (w.heap.size+2) (.slice none 0 0) (.slice none 0 0)):=a_F af (by simp [go_sem]);have X7:Hid (Cel W0 (w.heap.size+3) (.slice none 0 0) (.slice none 0 0)):=a_F af (by simp [go_sem]);clear af;refine (bd.out W0 a7.out).mono ?_;rintro e w1 ⟨v1,q1,rfl,⟨s1,t1,rfl,aS,ax⟩,aA⟩;obtain ⟨U,n3,V,rfl⟩:=aS.form_;obtain ⟨p4,E,H,rfl⟩:=ax.form_;have aU:=a_N (a_c a7.out aA) aA;have av:Hid (Nums .i64 w1 (.slice U n3 V) ta.1/\Nums .i64 w1 (.slice p4 E H) ta.2/\E<=H):=⟨aS.nums,ax.nums,ax.cap⟩
 have aQ:w1.heap[w.heap.size]?=some (.cells #[.int .i64 op,.int .i64 a,.int .i64 b,.int .i64 k,.slice ps O cs,.slice pt nt ct] 109 (0,0)):=(aA.block _ (a_i XN.out)).trans XN.out;obtain ⟨⟨k0,k1,k2,k3,k4,k5⟩,_⟩:=g_m aQ;have kz:=a_i aQ;clear aS ax aA bd;go_wp2_with fail
 generalize aZ:World.alloc _ _=W2;have B2:Below w1.heap.size w1 W2:=by rw [<- aZ];exact a_b _ _
 have a6:Hid (Cel W2 w1.heap.size (.slice U n3 V) (.slice p4 E H)):=a_F aZ (by simp [go_sem]);have aw:=a_N (a_c aU.out.1 B2) (a_c aU.out.2 B2);have ay:Hid (Nums .i64 W2 (.slice U n3 V) ta.1/\Nums .i64 W2 (.slice p4 E H) ta.2/\E<=H):=⟨av.out.1.up B2,av.out.2.1.up B2,av.out.2.2⟩
 clear aZ B2 aU av aQ k0 k1 k2 k3 k4 k5 kz;refine (be.out W2 aw.out.1).mono ?_;rintro e w3 ⟨v3,q3,rfl,⟨s3,t3,rfl,aH,az⟩,ag⟩;obtain ⟨p5,n5,c5,rfl⟩:=aH.form_;obtain ⟨p6,M,L,rfl⟩:=az.form_;have am:=a_N (a_c aw.out.1 ag) (a_c aw.out.2 ag);have ac:Hid ((Nums .i64 w3 (.slice U n3 V) ta.1/\Nums .i64 w3 (.slice p4 E H) ta.2/\E<=H)/\Nums .i64 w3 (.slice p5 n5 c5) I.1/\Nums .i64 w3 (.slice p6 M L) I.2/\M<=L):=⟨⟨ay.out.1.up ag,ay.out.2.1.up ag,ay.out.2.2⟩,aH.nums,az.nums,az.cap⟩
 have aB:w3.heap[w.heap.size]?=some (.cells #[.int .i64 op,.int .i64 a,.int .i64 b,.int .i64 k,.slice ps O cs,.slice pt nt ct] 109 (0,0)):=(am.out.2.block _ (a_i XN.out)).trans XN.out;have aV:Hid (Cel w3 w1.heap.size (.slice U n3 V) (.slice p4 E H)):=a6.out.up ag;obtain ⟨⟨k0,k1,k2,k3,k4,k5⟩,_⟩:=g_m aB;have kz:=a_i aB;obtain ⟨ao,aW,_,_⟩:=aV.out;have ka:=a_a ao;obtain ⟨ak,aK,_,_⟩:=XG.out.up am.out.2;have kg:=a_a ak;clear aH az ag be aw ay a6;go_wp2_with fail
 generalize aR:World.alloc _ _=W4;have B4:Below w3.heap.size w3 W4:=by rw [<- aR];exact a_b _ _
 have a5:Hid (Cel W4 w3.heap.size (.slice p5 n5 c5) (.slice p6 M L)):=a_F aR (by simp [go_sem]);have bc:Hid (Cel W4 w1.heap.size (.slice U n3 V) (.slice p4 E H)):=aV.out.up B4;have ai:=a_N (a_c am.out.1 B4) (a_c am.out.2 B4);have J:Hid ((Nums .i64 W4 (.slice U n3 V) ta.1/\Nums .i64 W4 (.slice p4 E H) ta.2/\E<=H)/\Nums .i64 W4 (.slice p5 n5 c5) I.1/\Nums .i64 W4 (.slice p6 M L) I.2/\M<=L):=⟨⟨ac.out.1.1.up B4,ac.out.1.2.1.up B4,ac.out.1.2.2⟩,ac.out.2.1.up B4,ac.out.2.2.1.up B4,ac.out.2.2.2⟩
 clear aR B4 am ac aB k0 k1 k2 k3 k4 k5 kz ao aW ka ak aK kg aV;refine (a2.out W4 _ _ _ _ _ _ _ _ _ _ _ _ ai.out.1 J.out.1.1 J.out.1.2.1 J.out.2.1 J.out.2.2.1 J.out.1.2.2 J.out.2.2.2).mono ?_;rintro e w5 ⟨v5,rfl,⟨s5,t5,rfl,aP,aM⟩,aa⟩;obtain ⟨pa,na,ca,rfl⟩:=aP.form_;obtain ⟨pb,nb,cb,rfl⟩:=aM.form_;have ap:=a_N (a_c ai.out.1 aa) (a_c ai.out.2 aa);have ab:Hid ((Nums .i64 w5 (.slice U n3 V) ta.1/\Nums .i64 w5 (.slice p4 E H) ta.2/\E<=H)/\Nums .i64 w5 (.slice p5 n5 c5) I.1/\Nums .i64 w5 (.slice p6 M L) I.2/\M<=L):=⟨⟨J.out.1.1.up aa,J.out.1.2.1.up aa,J.out.1.2.2⟩,J.out.2.1.up aa,J.out.2.2.1.up aa,J.out.2.2.2⟩
 have aX:Hid (OwnK .i64 3 w5 W0.heap.size (.slice pa na ca) RA.1/\OwnK .i64 23 w5 W0.heap.size (.slice pb nb cb) RA.2):=⟨aP.low ai.out.2.size,aM.low ai.out.2.size⟩
 have aE:w5.heap[w.heap.size]?=some (.cells #[.int .i64 op,.int .i64 a,.int .i64 b,.int .i64 k,.slice ps O cs,.slice pt nt ct] 109 (0,0)):=(ap.out.2.block _ (a_i XN.out)).trans XN.out;obtain ⟨⟨k0,k1,k2,k3,k4,k5⟩,_⟩:=g_m aE;have kz:=a_i aE;obtain ⟨ao,aW,_,_⟩:=bc.out.up aa;have ka:=a_a ao;obtain ⟨bb,bh,_,_⟩:=a5.out.up aa;have kb:=a_a bb;obtain ⟨ak,aK,_,_⟩:=XG.out.up ap.out.2;have kg:=a_a ak;clear aP aM aa a2 ai J bc a5;go_wp2_with fail
 generalize aF:World.alloc _ _=W6;have B6:Below w5.heap.size w5 W6:=by rw [<- aF];exact a_b _ _
 have a8:Hid (Cel W6 w5.heap.size (.slice pa na ca) (.slice pb nb cb)):=a_F aF (by simp [go_sem]);have ah:=a_N (a_c ap.out.1 B6) (a_c ap.out.2 B6);have ad:Hid ((Nums .i64 W6 (.slice U n3 V) ta.1/\Nums .i64 W6 (.slice p4 E H) ta.2/\E<=H)/\Nums .i64 W6 (.slice p5 n5 c5) I.1/\Nums .i64 W6 (.slice p6 M L) I.2/\M<=L):=⟨⟨ab.out.1.1.up B6,ab.out.1.2.1.up B6,ab.out.1.2.2⟩,ab.out.2.1.up B6,ab.out.2.2.1.up B6,ab.out.2.2.2⟩
 have aL:Hid (OwnK .i64 3 W6 W0.heap.size (.slice pa na ca) RA.1/\OwnK .i64 23 W6 W0.heap.size (.slice pb nb cb) RA.2):=⟨aX.out.1.up B6,aX.out.2.up B6⟩
 clear aF B6 ap ab aE k0 k1 k2 k3 k4 k5 kz ao aW ka bb bh kb ak aK kg aX;refine (a1.out W6 _ _ _ _ _ _ _ _ _ _ _ _ ah.out.1 ad.out.1.1 ad.out.1.2.1 ad.out.2.1 ad.out.2.2.1 ad.out.1.2.2 ad.out.2.2.2).mono ?_;rintro e w7 ⟨v7,rfl,⟨s7,t7,rfl,aN,aI⟩,ae⟩;obtain ⟨pc,nc,cc,rfl⟩:=aN.form_;obtain ⟨pd,nd,cd,rfl⟩:=aI.form_;have ar:=a_N (a_c ah.out.1 ae) (a_c ah.out.2 ae);have an:Hid ((OwnK .i64 3 w7 W0.heap.size (.slice pa na ca) RA.1/\OwnK .i64 23 w7 W0.heap.size (.slice pb nb cb) RA.2)/\OwnK .i64 3 w7 W0.heap.size (.slice pc nc cc) RB.1/\OwnK .i64 23 w7 W0.heap.size (.slice pd nd cd) RB.2):=⟨⟨aL.out.1.up ae,aL.out.2.up ae⟩,aN.low ah.out.2.size,aI.low ah.out.2.size⟩
 have aC:Hid (Cel w7 w5.heap.size (.slice pa na ca) (.slice pb nb cb)):=a8.out.up ae;clear aN aI ae a1 ah ad a8 aL;go_wp2_with fail
 generalize aY:World.alloc _ _=W8;have B8:Below w7.heap.size w7 W8:=by rw [<- aY];exact a_b _ _
 have bf:Cel W8 w7.heap.size (.slice pc nc cc) (.slice pd nd cd):=(a_F aY (by simp [go_sem])).out;have bj:=aC.out.up B8;have aO:=a_N (a_c ar.out.1 B8) (a_c ar.out.2 B8);have au:Hid ((OwnK .i64 3 W8 W0.heap.size (.slice pa na ca) RA.1/\OwnK .i64 23 W8 W0.heap.size (.slice pb nb cb) RA.2)/\OwnK .i64 3 W8 W0.heap.size (.slice pc nc cc) RB.1/\OwnK .i64 23 W8 W0.heap.size (.slice pd nd cd) RB.2):=⟨⟨an.out.1.1.up B8,an.out.1.2.up B8⟩,an.out.2.1.up B8,an.out.2.2.up B8⟩
 have bl:=a_a aC.out.1;have bm:=ar.out.2.size;have bn:=a_a X7.out.1;have x6:=X6.out.up aO.out.2;have x7:=X7.out.up aO.out.2;have bg:Hid (Cel W8 (w.heap.size+2) (.slice none 0 0) (.slice none 0 0)):=x6;have bk:Hid (Cel W8 (w.heap.size+3) (.slice none 0 0) (.slice none 0 0)):=x7;obtain ⟨u0,u1,u2,u3⟩:=x6;obtain ⟨v0,v1,v2,v3⟩:=x7;obtain ⟨f0,f1,_,_⟩:=bj;obtain ⟨y0,y1,_,_⟩:=bf;have j0:=a_a u0;have j1:=a_a v0;have j2:=a_a f0;have j3:=a_a y0;clear aY B8 ar an aC;go_region;generalize hZ:World.drew _=Z;obtain ⟨HZ,⟨e0,e1⟩,e2,e3⟩:=r_3 (w:=w) (B:=W0.heap.size) (Z:=Z) rfl (by rw [<- hZ];exact c_T (Below.refl _ _)) bg.out bk.out (by omega) aO.out.1 (by omega) (by omega) (by omega) (by omega) au.out.1.1 au.out.1.2 au.out.2.1 au.out.2.2;clear hZ;go_wp2;exact bodyPost_ret (v:=.tuple #[.agg #[.slice pa na ca,.slice pb nb cb],.agg #[.slice pc nc cc,.slice pd nd cd],.int .i64 0]) (by simp [results,Tryz.results68,go_sem,e0,e1,e2,e3]) rfl ⟨_,_,rfl,HZ.out⟩
theorem NodesV.ls {ns:List Nd} {s:Nd} (h:NodesV ns):NodesV (lsN ns s):=by
 unfold lsN
 split
 ·exact h.leaf
 ·exact h.do
theorem NodesV.lyF {ns sts:List Nd} (h:NodesV ns):∀ i,NodesV (lyF sts ns i).2.1
 | 0=>h
 | i+1=>by
  show NodesV (if (Wd.lyF sts ns i).1=0 then (lsE (Wd.lyF sts ns i).2.1 (stA sts i),lsN (Wd.lyF sts ns i).2.1 (stA sts i),lsR (Wd.lyF sts ns i).2.1 (stA sts i)) else Wd.lyF sts ns i).2.1
  split
  ·exact (NodesV.lyF h i).ls
  ·exact NodesV.lyF h i
theorem NodesV.lo {ns sts:List Nd} {e:Int} (h:NodesV ns):NodesV (loN e ns sts):=by
 unfold loN
 split
 ·unfold lyM
  split
  ·exact NodesV.lyF h _
  ·exact h
 ·exact h
theorem q_I {op:Int} (h:op=2∨op=3∨op=4∨op=9∨op=10∨op=11):GvC op:=by
 rcases h with rfl|rfl|rfl|rfl|rfl|rfl
 ·exact ⟨fun _=>ga2,fun _=>gb2⟩
 ·exact ⟨fun _=>ga3,fun _=>gb3⟩
 ·exact ⟨fun _=>ga4,fun _=>gb4⟩
 ·exact ⟨fun _=>ga9,fun h=>absurd h (by decide)⟩
 ·exact ⟨fun _=>t_I,fun h=>absurd h (by decide)⟩
 ·exact ⟨fun _=>t_v,fun h=>absurd h (by decide)⟩
/-- A step whose node may be swept over. -/
def o_C (s:Nd):Prop:=InR s.k/\(s.op≠1->GvC s.op)
theorem NodesK.ls {ns:List Nd} {s:Nd} (h:NodesK ns) (D:o_C s):NodesK (lsN ns s):=by
 unfold lsN
 split
 ·exact h.leaf
 ·rename_i E
  exact h.do D.1 (D.2 E)
theorem NodesK.lyF {ns sts:List Nd} (h:NodesK ns) (D:∀ i,o_C (stA sts i)):∀ i,NodesK (lyF sts ns i).2.1
 | 0=>h
 | i+1=>by
  show NodesK (if (Wd.lyF sts ns i).1=0 then (lsE (Wd.lyF sts ns i).2.1 (stA sts i),lsN (Wd.lyF sts ns i).2.1 (stA sts i),lsR (Wd.lyF sts ns i).2.1 (stA sts i)) else Wd.lyF sts ns i).2.1
  split
  ·exact (NodesK.lyF h D i).ls (D i)
  ·exact NodesK.lyF h D i
theorem NodesK.lo {ns sts:List Nd} {e:Int} (h:NodesK ns) (D:∀ i,o_C (stA sts i)):NodesK (loN e ns sts):=by
 unfold loN
 split
 ·unfold lyM
  split
  ·exact NodesK.lyF h D _
  ·exact h
 ·exact h
theorem e_h (y:List Int):o_C (lfS y):=⟨by show InR 0;unfold InR;omega,fun h=>absurd rfl h⟩
theorem b_O {op a b k:Int} (h:op=2∨op=3∨op=4∨op=9∨op=10∨op=11) (D:InR k):o_C (opS op a b k):=⟨D,fun _=>q_I h⟩
theorem i_P:o_C ⟨1,0,0,0,[],[]⟩:=⟨by show InR 0;unfold InR;omega,fun h=>absurd rfl h⟩
theorem s_9 {N o:Int} {y:List Int}:∀ i,o_C (stA (sqS N o y) i)
 | 0=>e_h y
 | 1=>b_O (by omega) (by unfold InR;omega)
 | 2=>b_O (by omega) (by unfold InR;omega)
 | 3=>b_O (by omega) (by unfold InR;omega)
 | _+4=>i_P
theorem t_a {N o:Int} {y:List Int}:∀ i,o_C (stA (szS N o y) i)
 | 0=>e_h y
 | 1=>b_O (by omega) (by unfold InR;omega)
 | 2=>b_O (by omega) (by unfold InR;omega)
 | 3=>b_O (by omega) (by unfold InR;omega)
 | _+4=>i_P
theorem t_b {N o:Int} {n:Nat} {c:Int}:∀ i,o_C (stA (hgS N o n c) i)
 | 0=>e_h _
 | 1=>e_h _
 | 2=>b_O (by omega) (by unfold InR;omega)
 | 3=>b_O (by omega) (by unfold InR;omega)
 | 4=>b_O (by omega) (by unfold InR;omega)
 | 5=>b_O (by omega) (by unfold InR;omega)
 | 6=>b_O (by omega) (by unfold InR;omega)
 | 7=>b_O (by omega) (by unfold InR;omega)
 | 8=>b_O (by omega) (by unfold InR;omega)
 | _+9=>i_P
end Go.Proofs.YtjlofobnmjompaaGreatDoor.Wd
namespace Go.Proofs.YtjlofobnmjompaaGreatDoor.Wd
/-- A layer: its kind and two numbers. -/
abbrev Ly:=ByteArray×Int×Int
def e_i:ByteArray:=⟨#[100,101,110,115,101]⟩
def i_Q:ByteArray:=⟨#[99,111,110,118]⟩
def i_R:ByteArray:=⟨#[112,111,111,108]⟩
def i_S:ByteArray:=⟨#[98,101,110,100]⟩
def e_j:ByteArray:=⟨#[115,107,105,112]⟩
/-- A kind's place in the table; 5: it is none. -/
def a_s (s:ByteArray):Nat:=if s=e_i then 0 else if s=i_Q then 1 else if s=i_R then 2 else if s=i_S then 3 else if s=e_j then 4 else 5
def b_K (i:Nat):ByteArray:=[e_i,i_Q,i_R,i_S,e_j].getD i ⟨#[]⟩
theorem d_B (s:ByteArray):(s=e_i/\a_s s=0)∨(s=i_Q/\a_s s=1)∨(s=i_R/\a_s s=2)∨(s=i_S/\a_s s=3)∨(s=e_j/\a_s s=4)∨((s≠e_i/\s≠i_Q/\s≠i_R/\s≠i_S/\s≠e_j)/\a_s s=5):=by
 by_cases H:s=e_i
 ·exact .inl ⟨H,by rw [H];decide +kernel⟩
 by_cases J:s=i_Q
 ·exact .inr (.inl ⟨J,by rw [J];decide +kernel⟩)
 by_cases I:s=i_R
 ·exact .inr (.inr (.inl ⟨I,by rw [I];decide +kernel⟩))
 by_cases E:s=i_S
 ·exact .inr (.inr (.inr (.inl ⟨E,by rw [E];decide +kernel⟩)))
 by_cases D:s=e_j
 ·exact .inr (.inr (.inr (.inr (.inl ⟨D,by rw [D];decide +kernel⟩))))
 ·exact .inr (.inr (.inr (.inr (.inr ⟨⟨H,J,I,E,D⟩,by simp [a_s,H,J,I,E,D]⟩))))
theorem m_Q (s:ByteArray):a_s s<=5:=by
 rcases d_B s with h|h|h|h|h|h <;> omega
theorem h_5 (s:ByteArray) (h:a_s s < 5):b_K (a_s s)=s:=by
 rcases d_B s with ⟨rfl,e⟩|⟨rfl,e⟩|⟨rfl,e⟩|⟨rfl,e⟩|⟨rfl,e⟩|⟨_,e⟩
 ·rw [e];rfl
 ·rw [e];rfl
 ·rw [e];rfl
 ·rw [e];rfl
 ·rw [e];rfl
 ·omega
def h_o (i:Nat):Nat:=if i=1 then 2 else if i < 4 then 1 else 0
def c_s (i:Nat):Int:=if i=0 then 256 else if i=1 then 16 else if i=2 then 16 else if i=3 then 5 else 0
def d_h (i:Nat):Int:=if i=1 then 16 else 0
/-- May a layer's kind and numbers be? -/
abbrev a_S (l:Ly):Prop:=a_s l.1 < 5/\(if 0 < h_o (a_s l.1) then 1<=l.2.1/\l.2.1<=c_s (a_s l.1) else l.2.1=0)/\(if 1 < h_o (a_s l.1) then 1<=l.2.2/\l.2.2<=d_h (a_s l.1) else l.2.2=0)
theorem a_K {l:Ly} (h:a_S l):(l.1=e_i/\a_s l.1=0/\(1<=l.2.1/\l.2.1<=256)/\l.2.2=0)∨(l.1=i_Q/\a_s l.1=1/\(1<=l.2.1/\l.2.1<=16)/\1<=l.2.2/\l.2.2<=16)∨(l.1=i_R/\a_s l.1=2/\(1<=l.2.1/\l.2.1<=16)/\l.2.2=0)∨(l.1=i_S/\a_s l.1=3/\(1<=l.2.1/\l.2.1<=5)/\l.2.2=0)∨(l.1=e_j/\a_s l.1=4/\l.2.1=0/\l.2.2=0):=by
 obtain ⟨H,E,D⟩:=h;rcases d_B l.1 with ⟨e,k⟩|⟨e,k⟩|⟨e,k⟩|⟨e,k⟩|⟨e,k⟩|⟨_,k⟩ <;> rw [k] at H E D <;> simp [h_o,c_s,d_h] at E D
 ·exact .inl ⟨e,k,E,D⟩
 ·exact .inr (.inl ⟨e,k,E,D⟩)
 ·exact .inr (.inr (.inl ⟨e,k,E,D⟩))
 ·exact .inr (.inr (.inr (.inl ⟨e,k,E,D⟩)))
 ·exact .inr (.inr (.inr (.inr ⟨e,k,E,D⟩)))
 ·omega
/-- What comes in. -/
def InOk (d:List Int):Prop:=(∃ x,d = [x]/\1<=x/\x<=1024)∨∃ x y,d = [x,y]/\(1<=x/\x<=64)/\1<=y/\y<=64
def d_S (d:List Int):Bool:=match d with
 | [x]=>decide (1<=x/\x<=1024)
 | [x,y]=>decide ((1<=x/\x<=64)/\1<=y/\y<=64)
 | _=>false
theorem m_R (d:List Int):d_S d=true↔InOk d:=by
 unfold InOk
 match d with
 | []=>simp [d_S]
 | [x]=>simp [d_S]
 | [x,y]=>
  simp only [d_S,decide_eq_true_eq]
  exact ⟨fun h=>.inr ⟨x,y,rfl,h⟩,fun h=>by
   rcases h with ⟨_,h,_⟩|⟨_,_,h,D⟩
   ·simp at h
   ·simp only [List.cons.injEq,and_true] at h;obtain ⟨rfl,rfl⟩:=h;exact D⟩
 | x :: y :: z :: r=>simp [d_S]
def b_L (d:List Int) (ls:List Ly):Bool:=d_S d && ls.all fun l=>decide (a_S l)
def a_t (l:List Int):Int:=l.foldl (·*·) 1
def d_C (l:Ly) (d:List Int):Option (List Int):=
 if a_s l.1=0 then some [l.2.1]
 else if a_s l.1=1 then (if d.length=2/\l.2.2<=d.getD 1 0 then some [l.2.1,d.getD 1 0 - l.2.2+1] else none)
 else if a_s l.1=2 then (if d.length=2/\l.2.1<=d.getD 1 0 then some [d.getD 0 0,Int.tdiv (d.getD 1 0) l.2.1] else none)
 else some d
def c_t (l:Ly) (d:List Int):List (List Int):=if a_s l.1=0 then [[l.2.1,a_t d],[l.2.1]] else if a_s l.1=1 then [[l.2.1,d.getD 0 0,l.2.2]] else []
def lyD:Ly:=(⟨#[]⟩,0,0)
def lyA (ls:List Ly) (i:Nat):Ly:=ls.getD i lyD
def shA (S:List (List Int)) (i:Nat):List Int:=S.getD i []
/-- May the i-th layer, a skip, add what went into the one ahead? -/
abbrev c_Z (ls:List Ly) (S:List (List Int)) (i:Nat):Prop:=0 < i/\(lyA ls (i - 1)).1≠e_j/\shA S (i - 1)=shA S i
def f_2 (ls:List Ly) (i:Nat) (S:List (List Int)):Option (List (List Int)):=
 if (lyA ls i).1=e_j/\¬ c_Z ls S i then none else (d_C (lyA ls i) (shA S i)).map fun o=>S++[o]
/-- What comes in, and what goes out of the first i layers. -/
def shN (d:List Int) (ls:List Ly):Nat->Option (List (List Int))
 | 0=>some [d]
 | i+1=>(shN d ls i).bind (f_2 ls i)
theorem j_5 {d:List Int} {ls:List Ly} {i:Nat} (h:shN d ls i=none):∀ k,shN d ls (i+k)=none
 | 0=>h
 | k+1=>by rw [<- Nat.add_assoc];show (shN d ls (i+k)).bind _=none;rw [j_5 h k];rfl
theorem b_o {d:List Int} {ls:List Ly} {i n:Nat} (h:shN d ls i=none) (D:i<=n):shN d ls n=none:=by
 have:=j_5 h (n - i);rwa [show i+(n - i)=n by omega] at this
theorem a_G {d:List Int} {ls:List Ly} {i:Nat} {S:List (List Int)} (h:shN d ls i=some S):shN d ls (i+1)=f_2 ls i S:=by
 show (shN d ls i).bind _=_;rw [h];rfl
theorem c_U {d:List Int} {ls:List Ly}:∀ {i:Nat} {S:List (List Int)},shN d ls i=some S->S.length=i+1
 | 0,S,h=>by cases h;rfl
 | i+1,S,h=>by
  cases D:shN d ls i with
  | none=>rw [b_o D (Nat.le_succ i)] at h;cases h
  | some S0=>
   rw [a_G D] at h;unfold f_2 at h
   split at h
   ·cases h
   ·obtain ⟨o,E,rfl⟩:=Option.map_eq_some_iff.1 h;rw [List.length_append,c_U D];rfl
theorem e_k {ls:List Ly} {i:Nat} {S D:List (List Int)} (h:f_2 ls i S=some D):∃ o,D=S++[o]/\d_C (lyA ls i) (shA S i)=some o:=by
 unfold f_2 at h
 split at h
 ·cases h
 ·obtain ⟨o,E,rfl⟩:=Option.map_eq_some_iff.1 h;exact ⟨o,rfl,E⟩
theorem d_T {ls:List Ly} {i:Nat} (h:i < ls.length):lyA ls i∈ls:=by
 unfold lyA;rw [List.getD_eq_getElem?_getD,List.getElem?_eq_getElem h];exact List.getElem_mem _
theorem d_U {S:List (List Int)} {i:Nat} (T:List (List Int)) (h:i < S.length):shA (S++T) i=shA S i:=by
 unfold shA;rw [List.getD_eq_getElem?_getD,List.getD_eq_getElem?_getD,List.getElem?_append_left h]
theorem g_2 (S:List (List Int)) (o:List Int) (i:Nat) (h:S.length=i):shA (S++[o]) i=o:=by
 subst h;unfold shA;simp
theorem InOk.out {l:Ly} {d o:List Int} (H:InOk d) (O:a_S l) (h:d_C l d=some o):InOk o:=by
 unfold d_C at h;rcases a_K O with ⟨_,k,E,D⟩|⟨_,k,E,D⟩|⟨_,k,E,D⟩|⟨_,k,E,D⟩|⟨_,k,E,D⟩ <;> rw [k] at h <;> simp at h
 ·subst h;exact .inl ⟨_,rfl,by omega,by omega⟩
 ·obtain ⟨⟨J,I⟩,rfl⟩:=h;rcases H with ⟨x,rfl,_⟩|⟨x,y,rfl,L,M⟩
  ·simp at J
  ·simp at I ⊢;exact .inr ⟨_,_,rfl,by omega,by omega,by omega⟩
 ·obtain ⟨⟨J,I⟩,rfl⟩:=h;rcases H with ⟨x,rfl,_⟩|⟨x,y,rfl,L,M⟩
  ·simp at J
  ·simp at I ⊢;refine .inr ⟨_,_,rfl,L,?_,?_⟩
   ·rw [Int.tdiv_eq_ediv_of_nonneg (by omega)];exact (Int.le_ediv_iff_mul_le (by omega)).2 (by omega)
   ·rw [Int.tdiv_eq_ediv_of_nonneg (by omega)];have:=Int.ediv_le_self l.2.1 (a:=y) (by omega);omega
 ·subst h;exact H
 ·subst h;exact H
theorem e_l {d:List Int} {ls:List Ly} (I:InOk d) (H:∀ l∈ls,a_S l):∀ {i:Nat} {S:List (List Int)},i<=ls.length->shN d ls i=some S->∀ k,k < i+1->InOk (shA S k)
 | 0,S,_,h,k,hk=>by
  cases h;obtain rfl:k=0:=by omega
  exact I
 | i+1,S,hi,h,k,hk=>by
  cases E:shN d ls i with
  | none=>rw [b_o E (Nat.le_succ i)] at h;cases h
  | some S0=>
   rw [a_G E] at h;obtain ⟨o,rfl,J⟩:=e_k h;have L:=c_U E;rcases Nat.lt_or_ge k (i+1) with D|D
   ·rw [d_U _ (by omega)];exact e_l I H (by omega) E k D
   ·rw [g_2 S0 o k (by omega)];exact (e_l I H (by omega) E i (by omega)).out (H _ (d_T (by omega))) J
theorem c_C (x:Int):a_t [x]=x:=by simp [a_t]
theorem c_D (x y:Int):a_t [x,y]=x*y:=by simp [a_t]
theorem c_V (x y z:Int):a_t [x,y,z]=x*y*z:=by simp [a_t]
theorem a_3 {x y a b:Int} (E:1<=x/\x<=a) (D:1<=y/\y<=b):1<=x*y/\x*y<=a*b:=by
 refine ⟨?_,Int.mul_le_mul E.2 D.2 (by omega) (by omega)⟩;have:=Int.mul_le_mul E.1 D.1 (by omega) (by omega);omega
theorem InOk.prod {d:List Int} (h:InOk d):1<=a_t d/\a_t d<=4096:=by
 rcases h with ⟨x,rfl,h⟩|⟨x,y,rfl,E,D⟩
 ·rw [c_C];omega
 ·rw [c_D];have:=a_3 E D;omega
/-- How many parameters a layer has. -/
def psz (l:Ly) (d:List Int):Int:=if a_s l.1=0 then l.2.1*a_t d+l.2.1 else if a_s l.1=1 then l.2.1*d.getD 0 0*l.2.2 else 0
def b_5 (ls:List Ly) (S:List (List Int)):Nat->Int
 | 0=>0
 | i+1=>b_5 ls S i+psz (lyA ls i) (shA S i)
theorem e_D {l:Ly} {d:List Int} (H:InOk d) (J:a_S l):0<=psz l d/\psz l d<=1049600:=by
 unfold psz;have I:=H.prod;rcases a_K J with ⟨_,k,D,E⟩|⟨_,k,D,E⟩|⟨_,k,D,E⟩|⟨_,k,D,E⟩|⟨_,k,D,E⟩ <;> rw [k] <;> simp
 ·have:=a_3 D I;omega
 ·rcases H with ⟨x,rfl,h⟩|⟨x,y,rfl,L,M⟩
  ·have:=a_3 (a_3 D h) E;simp;omega
  ·have:=a_3 (a_3 D L) E;simp;omega
theorem g_3 {ls:List Ly} {S:List (List Int)}:∀ {i:Nat},(∀ k,k < i->InOk (shA S k))->(∀ k,k < i->a_S (lyA ls k))->0<=b_5 ls S i/\b_5 ls S i<=1049600*(i:Int)
 | 0,_,_=>by simp [b_5]
 | i+1,h,h2=>by
  have:=g_3 (fun k D=>h k (by omega)) (fun k D=>h2 k (by omega)) (i:=i);have E:=e_D (h i (by omega)) (h2 i (by omega));simp only [b_5];omega
/-- More than may be: the reasons, the first i layers' parameters among them. -/
def i_i (S:List (List Int)):Bool:=S.any fun s=>decide (4096 < a_t s)
def r_4 (l:Ly) (d:List Int):Bool:=(c_t l d).any fun s=>decide (4096 < a_t s)
def l_a (ls:List Ly) (S:List (List Int)):Nat->Bool
 | 0=>false
 | i+1=>l_a ls S i || r_4 (lyA ls i) (shA S i)
def e_N (ls:List Ly) (S:List (List Int)):Bool:=decide (16 < ls.length) || i_i S || l_a ls S ls.length || decide (4096 < b_5 ls S ls.length)
/-- What Shapes answers: an error, shapes, how many parameters. -/
def nE (d:List Int) (ls:List Ly):Int:=if b_L d ls=true then (match shN d ls ls.length with|none=>4|some S=>if e_N ls S=true then 2 else 0) else 1
def nS (d:List Int) (ls:List Ly):List (List Int):=if nE d ls=0 then (shN d ls ls.length).getD [] else []
def nP (d:List Int) (ls:List Ly):Int:=if nE d ls=0 then b_5 ls ((shN d ls ls.length).getD []) ls.length else 0
theorem c_f (d:List Int) (ls:List Ly):b_L d ls=true↔InOk d/\∀ l∈ls,a_S l:=by
 unfold b_L;rw [Bool.and_eq_true,m_R,List.all_eq_true];simp only [decide_eq_true_eq]
theorem m_S {d:List Int} {ls:List Ly} (h:¬ b_L d ls=true):nE d ls=1:=by unfold nE;rw [if_neg h]
theorem d_i {d:List Int} {ls:List Ly} (h:b_L d ls=true) (D:shN d ls ls.length=none):nE d ls=4:=by unfold nE;rw [if_pos h,D]
theorem m_T {d:List Int} {ls:List Ly} {S:List (List Int)} (h:b_L d ls=true) (E:shN d ls ls.length=some S) (D:e_N ls S=true):nE d ls=2:=by unfold nE;rw [if_pos h,E];simp [D]
theorem k_O {d:List Int} {ls:List Ly} {S:List (List Int)} (h:b_L d ls=true) (D:shN d ls ls.length=some S) (E:e_N ls S=false):nE d ls=0/\nS d ls=S/\nP d ls=b_5 ls S ls.length:=by
 have e:nE d ls=0:=by unfold nE;rw [if_pos h,D];simp [E]
 refine ⟨e,?_,?_⟩
 ·unfold nS;rw [if_pos e,D];rfl
 ·unfold nP;rw [if_pos e,D];rfl
theorem h_6 {d:List Int} {ls:List Ly} (h:nE d ls≠0):nS d ls = []/\nP d ls=0:=⟨if_neg h,if_neg h⟩
/-- What a good net is. -/
theorem e_Z {d:List Int} {ls:List Ly} (h:nE d ls=0):∃ S,b_L d ls=true/\shN d ls ls.length=some S/\e_N ls S=false:=by
 unfold nE at h
 split at h
 ·rename_i hf
  cases D:shN d ls ls.length with
  | none=>rw [D] at h;simp at h
  | some S=>
   rw [D] at h;refine ⟨S,hf,rfl,?_⟩;cases E:e_N ls S with
   | false=>rfl
   | true=>simp [E] at h
 ·cases h
end Go.Proofs.YtjlofobnmjompaaGreatDoor.Wd
