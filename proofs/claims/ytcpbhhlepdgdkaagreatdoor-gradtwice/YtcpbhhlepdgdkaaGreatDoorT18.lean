/- The code's At and Value. · The code's gi -/
import Derived.Test.YtcpbhhlepdgdkaaGreatDoorT17
import Derived.Deep.MidRow
import Derived.Lib.SlicesS
set_option linter.unusedVariables false
set_option linter.unusedSimpArgs false
set_option maxHeartbeats 16000000
set_option maxRecDepth 16000
namespace Go.Proofs.YtcpbhhlepdgdkaaGreatDoor.Wd
open Go.RowKit Fx
theorem t_o {W:World} {b:Nat} {H L E I O M D J:Value} {e:TypeId} (h:W.heap[b]?=some (.cells #[H,L,E,I,O,M] e (0,0))):((W.setCell ⟨b,4,none⟩ D).setCell ⟨b,5,none⟩ J).heap[b]?=some (.cells #[H,L,E,I,D,J] e (0,0)):=by
 rw [a_n (a_n h)];rfl
theorem m_T (B tb:Nat) (ns:List Nd) (hG:NodesG ns) (i:Nat) (nd:Nd) (hi:ns[i]?=some nd) (w:World) (hT:TapC w B tb ns):
  Calls Tryz.prog 43 #[.pointer (some ⟨tb,0,none⟩),.int .i64 (i:Int)] w fun e w'=>∃ s t,e = .returned (.tuple #[.agg #[.int .i64 nd.op,.int .i64 nd.a,.int .i64 nd.b,.int .i64 nd.k,s,t],.bool true])/\OwnK .i64 3 w' w.heap.size s nd.D/\OwnK .i64 48 w' w.heap.size t nd.X/\Below w.heap.size w w':=by
 have ak:Hid (TapC w B tb ns):=hT;obtain ⟨pL,cL,aq,hv,ho,aj,ah⟩:=Tap.head hT;obtain ⟨N,eN⟩:∃ N,ns.length=N:=⟨_,rfl⟩
 rw [eN] at hv ho ah;have L:=(b_G hv).1;have an:i < N:=by rw [<- eN];exact (List.getElem?_eq_some_iff.1 hi).1
 obtain ⟨q,ar,s_,t_,eq,ai,c0,c1,c2,c3,c4,c5,hs,ht⟩:=d_y ho aj eN i an;rw [hi] at ai;cases ai;obtain ⟨pA,nA,cA,rfl⟩:=hs.form_;obtain ⟨qA,mA,eA,rfl⟩:=ht.form_;subst eq;have hq:decide (0<=(i:Int)/\(i:Int) < (ns.length:Int))=true:=decide_eq_true (by omega);have HN:Hid (Nums .i64 w (.slice pA nA cA) nd.D/\Nums .i64 w (.slice qA mA eA) nd.X/\isP nd.D nd.X):=⟨hs.nums,ht.nums,(hG nd (f_P hi)).1⟩
 have HC:Hid (w.cell? ⟨tb,0,none⟩=some (.slice (some ⟨q,0,none⟩) N cL)/\w.cell? ⟨q,i*6,none⟩=some (.int .i64 nd.op)/\w.cell? ⟨q,i*6+1,none⟩=some (.int .i64 nd.a)/\w.cell? ⟨q,i*6+2,none⟩=some (.int .i64 nd.b)/\w.cell? ⟨q,i*6+3,none⟩=some (.int .i64 nd.k)/\w.cell? ⟨q,i*6+4,none⟩=some (.slice pA nA cA)/\w.cell? ⟨q,i*6+5,none⟩=some (.slice qA mA eA)):=⟨L,c0,c1,c2,c3,c4,c5⟩
 have d2:(i:Int) < (N:Int):=by omega
 obtain ⟨op,a,b,k,D,X⟩:=nd;simp only [] at HC HN ⊢;clear hT hv ho aj ah hs ht c0 c1 c2 c3 c4 c5 L hG hi;go_enter Tryz.func43,Tryz.ntmps43;go_wp2_with fail
 generalize ab:World.alloc _ _=W0;have M:W0.heap[w.heap.size]?=some (.cells #[.int .i64 0,.int .i64 0,.int .i64 0,.int .i64 0,.slice none 0 0,.slice none 0 0] 107 (0,0)):=by rw [<- ab];exact heap_alloc_new _ _
 have E:Hid (Below w.heap.size w W0):=by show Below _ _ _;rw [<- ab];exact a_b _ _
 clear ab;refine (c_T B tb ns (i:Int) true hq W0 (ak.out.up E.out)).mono ?_;rintro e H ⟨rfl,ap⟩;subst ap;clear hq;have c:=a_d HC.out.1 E.out;have c0:=a_d HC.out.2.1 E.out;have c1:=a_d HC.out.2.2.1 E.out;have c2:=a_d HC.out.2.2.2.1 E.out;have c3:=a_d HC.out.2.2.2.2.1 E.out;have c4:=a_d HC.out.2.2.2.2.2.1 E.out;have c5:=a_d HC.out.2.2.2.2.2.2 E.out;have k0:=a_a c;have k1:=a_a c0;go_wp2_with fail
 generalize aa:World.alloc _ _=W2;have ad:W2.heap[H.heap.size]?=some (.cells #[.int .i64 op,.int .i64 a,.int .i64 b,.int .i64 k,.slice pA nA cA,.slice qA mA eA] 107 (0,0)):=by rw [<- aa];exact heap_alloc_new _ _
 have I:Hid (Below H.heap.size H W2/\Below w.heap.size w W2):=by
  have h:=a_b H (.cells #[.int .i64 op,.int .i64 a,.int .i64 b,.int .i64 k,.slice pA nA cA,.slice qA mA eA] 107);rw [aa] at h;exact ⟨h,a_c E.out h⟩
 have ag:W2.heap[w.heap.size]?=some (.cells #[.int .i64 0,.int .i64 0,.int .i64 0,.int .i64 0,.slice none 0 0,.slice none 0 0] 107 (0,0)):=by rw [I.out.1.block _ (a_i M)];exact M
 clear aa c c0 c1 c2 c3 c4 c5 k0 k1;refine (f_R pA qA nA cA mA eA D X HN.out.2.2 W2 (HN.out.1.up I.out.2) (HN.out.2.1.up I.out.2)).mono ?_;rintro e w3 ⟨v3,rfl,⟨s3,t3,rfl,hs,ht⟩,V⟩;obtain ⟨U,R,O,rfl⟩:=hs.form_;obtain ⟨pb,nb,cb,rfl⟩:=ht.form_;have J:w3.heap[H.heap.size]?=some (.cells #[.int .i64 op,.int .i64 a,.int .i64 b,.int .i64 k,.slice pA nA cA,.slice qA mA eA] 107 (0,0)):=by rw [V.block _ (a_i ad)];exact ad
 have af:w3.heap[w.heap.size]?=some (.cells #[.int .i64 0,.int .i64 0,.int .i64 0,.int .i64 0,.slice none 0 0,.slice none 0 0] 107 (0,0)):=by rw [V.block _ (a_i ag)];exact ag
 have HO:Hid (OwnK .i64 3 w3 w.heap.size (.slice U R O) D/\OwnK .i64 48 w3 w.heap.size (.slice pb nb cb) X):=⟨hs.low I.out.2.size,ht.low I.out.2.size⟩
 have ao:Hid (Below w.heap.size w w3):=a_c I.out.2 V;have am:w.heap.size < H.heap.size:=a_i M;clear hs ht V ad ag M HN HC d2 ak;have n1:H.heap.size≠w.heap.size:=by omega
 have n2:w.heap.size≠H.heap.size:=by omega
 obtain ⟨⟨x0,x1,x2,x3,x4,x5⟩,xf⟩:=g_s J;obtain ⟨⟨r0,r1,r2,r3,r4,r5⟩,rf⟩:=g_s af;have k1:=a_i J;have k2:=a_i af
 have ac:Hid ((((w3.setCell ⟨H.heap.size,4,none⟩ (.slice U R O)).setCell ⟨H.heap.size,5,none⟩ (.slice pb nb cb)).heap[H.heap.size]?=some (.cells #[.int .i64 op,.int .i64 a,.int .i64 b,.int .i64 k,.slice U R O,.slice pb nb cb] 107 (0,0))/\((w3.setCell ⟨H.heap.size,4,none⟩ (.slice U R O)).setCell ⟨H.heap.size,5,none⟩ (.slice pb nb cb)).heap[w.heap.size]?=some (.cells #[.int .i64 0,.int .i64 0,.int .i64 0,.int .i64 0,.slice none 0 0,.slice none 0 0] 107 (0,0)))/\Below w.heap.size w ((w3.setCell ⟨H.heap.size,4,none⟩ (.slice U R O)).setCell ⟨H.heap.size,5,none⟩ (.slice pb nb cb))/\Only [107] w3 ((w3.setCell ⟨H.heap.size,4,none⟩ (.slice U R O)).setCell ⟨H.heap.size,5,none⟩ (.slice pb nb cb))):=by
  refine ⟨⟨t_o J,?_⟩,?_,?_⟩
  ·rw [a_X _ _ _ _ _ (by omega),a_X _ _ _ _ _ (by omega)];exact af
  ·exact (ao.out.setCell (p:=⟨H.heap.size,4,none⟩) (Nat.le_of_lt am) _).setCell (p:=⟨H.heap.size,5,none⟩) (Nat.le_of_lt am) _
  ·exact (Only.set J (by simp)).trans (Only.set (a_n J) (by simp))
 go_wp2;generalize ae:World.setCell _ _ _=W9;have h0:=ac.out.1.2;have h1:=a_n (o:=0) (x:=(.int .i64 op)) h0;have h2:=a_n (o:=1) (x:=(.int .i64 a)) h1;have h3:=a_n (o:=2) (x:=(.int .i64 b)) h2;have h4:=a_n (o:=3) (x:=(.int .i64 k)) h3;have h5:=a_n (o:=4) (x:=(.slice U R O)) h4
 have H9:W9.heap[w.heap.size]?=some (.cells #[.int .i64 op,.int .i64 a,.int .i64 b,.int .i64 k,.slice U R O,.slice pb nb cb] 107 (0,0)):=by
  rw [<- ae];exact (a_n h5).trans rfl
 have B9:Below w.heap.size w W9:=by
  rw [<- ae];exact ((((((ac.out.2.1.setCell (p:=⟨w.heap.size,0,none⟩) (Nat.le_refl _) _).setCell (p:=⟨w.heap.size,1,none⟩) (Nat.le_refl _) _).setCell (p:=⟨w.heap.size,2,none⟩) (Nat.le_refl _) _).setCell (p:=⟨w.heap.size,3,none⟩) (Nat.le_refl _) _).setCell (p:=⟨w.heap.size,4,none⟩) (Nat.le_refl _) _).setCell (p:=⟨w.heap.size,5,none⟩) (Nat.le_refl _) _)
 have O9:Only [107] w3 W9:=by
  rw [<- ae];exact ((((((ac.out.2.2.trans (Only.set h0 (by simp))).trans (Only.set h1 (by simp))).trans (Only.set h2 (by simp))).trans (Only.set h3 (by simp))).trans (Only.set h4 (by simp))).trans (Only.set h5 (by simp)))
 obtain ⟨⟨z0,z1,z2,z3,z4,z5⟩,_⟩:=g_s H9;exact bodyPost_ret (v:=.tuple #[.agg #[.int .i64 op,.int .i64 a,.int .i64 b,.int .i64 k,.slice U R O,.slice pb nb cb],.bool true]) (by simp [results,Tryz.results43,go_sem,z0,z1,z2,z3,z4,z5]) rfl ⟨_,_,rfl,HO.out.1.only O9 (by decide),HO.out.2.only O9 (by decide),B9⟩
theorem m_U (B I:Nat) (ns:List Nd) (i:Int) (hi:i < 0∨(ns.length:Int)<=i) (w:World) (O:TapC w B I ns):
  Calls Tryz.prog 43 #[.pointer (some ⟨I,0,none⟩),.int .i64 i] w fun e w'=>e = .returned (.tuple #[.agg #[.int .i64 0,.int .i64 0,.int .i64 0,.int .i64 0,.slice none 0 0,.slice none 0 0],.bool false])/\Below w.heap.size w w':=by
 have M:Hid (TapC w B I ns):=O;have R:decide (0<=i/\i < (ns.length:Int))=false:=decide_eq_false (by omega);clear O hi;go_enter Tryz.func43,Tryz.ntmps43;go_wp2_with fail
 generalize D:World.alloc _ _=W0;have J:W0.heap[w.heap.size]?=some (.cells #[.int .i64 0,.int .i64 0,.int .i64 0,.int .i64 0,.slice none 0 0,.slice none 0 0] 107 (0,0)):=by rw [<- D];exact heap_alloc_new _ _
 have E:Hid (Below w.heap.size w W0):=by show Below _ _ _;rw [<- D];exact a_b _ _
 clear D;refine (c_T B I ns i false R W0 (M.out.up E.out)).mono ?_;rintro e w1 ⟨rfl,L⟩;subst L;clear R;obtain ⟨⟨r0,r1,r2,r3,r4,r5⟩,rf⟩:=g_s J;have k2:=a_i J;go_wp2;generalize H:World.setCell _ _ _=W9;have h1:=a_n (o:=0) (x:=(.int .i64 0)) J;have h2:=a_n (o:=1) (x:=(.int .i64 0)) h1;have h3:=a_n (o:=2) (x:=(.int .i64 0)) h2;have U:=a_n (o:=3) (x:=(.int .i64 0)) h3;have V:=a_n (o:=4) (x:=(.slice none 0 0)) U
 have H9:W9.heap[w.heap.size]?=some (.cells #[.int .i64 0,.int .i64 0,.int .i64 0,.int .i64 0,.slice none 0 0,.slice none 0 0] 107 (0,0)):=by
  rw [<- H];exact (a_n V).trans rfl
 have B9:Below w.heap.size w W9:=by
  rw [<- H];exact ((((((E.out.setCell (p:=⟨w.heap.size,0,none⟩) (Nat.le_refl _) _).setCell (p:=⟨w.heap.size,1,none⟩) (Nat.le_refl _) _).setCell (p:=⟨w.heap.size,2,none⟩) (Nat.le_refl _) _).setCell (p:=⟨w.heap.size,3,none⟩) (Nat.le_refl _) _).setCell (p:=⟨w.heap.size,4,none⟩) (Nat.le_refl _) _).setCell (p:=⟨w.heap.size,5,none⟩) (Nat.le_refl _) _)
 obtain ⟨⟨z0,z1,z2,z3,z4,z5⟩,_⟩:=g_s H9;exact bodyPost_ret (v:=.tuple #[.agg #[.int .i64 0,.int .i64 0,.int .i64 0,.int .i64 0,.slice none 0 0,.slice none 0 0],.bool false]) (by simp [results,Tryz.results43,go_sem,z0,z1,z2,z3,z4,z5]) rfl ⟨rfl,B9⟩
theorem b_9 (B tb:Nat) (ns:List Nd) (hG:NodesG ns) (i:Nat) (nd:Nd) (hi:ns[i]?=some nd) (w:World) (hT:TapC w B tb ns):
  Calls Tryz.prog 26 #[.pointer (some ⟨tb,0,none⟩),.int .i64 (i:Int)] w fun e V=>∃ v,e = .returned (.tuple #[v,.bool true])/\TRes V w.heap.size v nd.D nd.X/\Below w.heap.size w V:=by
 have J:Hid (∀ W,Below w.heap.size w W->Calls Tryz.prog 43 #[.pointer (some ⟨tb,0,none⟩),.int .i64 (i:Int)] W fun e V=>∃ s t,e = .returned (.tuple #[.agg #[.int .i64 nd.op,.int .i64 nd.a,.int .i64 nd.b,.int .i64 nd.k,s,t],.bool true])/\OwnK .i64 3 V W.heap.size s nd.D/\OwnK .i64 48 V W.heap.size t nd.X/\Below W.heap.size W V):=fun W hW=>m_T B tb ns hG i nd hi W (hT.up hW);obtain ⟨op,a,b,k,D,X⟩:=nd;simp only [] at J ⊢;clear hT hi hG;go_enter Tryz.func26,Tryz.ntmps26;go_wp2_with fail
 generalize L:World.alloc _ _=W0;have H:Hid (Below w.heap.size w W0):=by show Below _ _ _;rw [<- L];exact a_b _ _
 have XR:Hid (Cel W0 w.heap.size (.slice none 0 0) (.slice none 0 0)):=a_F L (by simp [go_sem]);clear L;refine (J.out W0 H.out).mono ?_;rintro e w1 ⟨s,t,rfl,hs,ht,aa⟩;obtain ⟨U,R,O,rfl⟩:=hs.form_;obtain ⟨M,I,E,rfl⟩:=ht.form_;have HF:Hid (TRes (set2 w1 w.heap.size (.slice U R O) (.slice M I E)) w.heap.size (.agg #[.slice U R O,.slice M I E]) D X/\Below w.heap.size w (set2 w1 w.heap.size (.slice U R O) (.slice M I E))):=⟨(TRes.set hs ht (a_a XR.out.1)).low H.out.size,a_j (a_c H.out aa) _ (Nat.le_refl _) _ _⟩
 clear hs ht J;have xr:=XR.out.up aa;have cf:=xr.set (.slice U R O) (.slice M I E);obtain ⟨r0,r1,r2,r3⟩:=xr;have kq:=a_a r0;have z0:=a_d cf.1 (a_b _ (.cells #[.int .i64 op,.int .i64 a,.int .i64 b,.int .i64 k,.slice U R O,.slice M I E] 107));have z1:=a_d cf.2.1 (a_b _ (.cells #[.int .i64 op,.int .i64 a,.int .i64 b,.int .i64 k,.slice U R O,.slice M I E] 107));clear cf;go_wp2;exact bodyPost_ret (v:=.tuple #[.agg #[.slice U R O,.slice M I E],.bool true]) (by simp [results,Tryz.results26,go_sem,z0,z1]) rfl ⟨_,rfl,HF.out.1.up (a_b _ _),a_c HF.out.2 (a_b _ _)⟩
theorem e_2 (B J:Nat) (ns:List Nd) (i:Int) (R:i < 0∨(ns.length:Int)<=i) (w:World) (O:TapC w B J ns):
  Calls Tryz.prog 26 #[.pointer (some ⟨J,0,none⟩),.int .i64 i] w fun e M=>e = .returned (.tuple #[.agg #[.slice none 0 0,.slice none 0 0],.bool false])/\Below w.heap.size w M:=by
 have I:Hid (∀ W,Below w.heap.size w W->Calls Tryz.prog 43 #[.pointer (some ⟨J,0,none⟩),.int .i64 i] W fun e M=>e = .returned (.tuple #[.agg #[.int .i64 0,.int .i64 0,.int .i64 0,.int .i64 0,.slice none 0 0,.slice none 0 0],.bool false])/\Below W.heap.size W M):=fun W hW=>m_U B J ns i R W (O.up hW);clear O R;go_enter Tryz.func26,Tryz.ntmps26;go_wp2_with fail
 generalize D:World.alloc _ _=W0;have E:Hid (Below w.heap.size w W0):=by show Below _ _ _;rw [<- D];exact a_b _ _
 have XR:Hid (Cel W0 w.heap.size (.slice none 0 0) (.slice none 0 0)):=a_F D (by simp [go_sem]);clear D;refine (I.out W0 E.out).mono ?_;rintro e V ⟨rfl,H⟩;have HF:Hid (Below w.heap.size w (set2 V w.heap.size (.slice none 0 0) (.slice none 0 0))):=a_j (a_c E.out H) _ (Nat.le_refl _) _ _;clear I;have U:=XR.out.up H;have L:=U.set (.slice none 0 0) (.slice none 0 0);obtain ⟨r0,r1,r2,r3⟩:=U;have kq:=a_a r0;have z0:=a_d L.1 (a_b _ (.cells #[.int .i64 0,.int .i64 0,.int .i64 0,.int .i64 0,.slice none 0 0,.slice none 0 0] 107));have z1:=a_d L.2.1 (a_b _ (.cells #[.int .i64 0,.int .i64 0,.int .i64 0,.int .i64 0,.slice none 0 0,.slice none 0 0] 107));clear L;go_wp2;exact bodyPost_ret (v:=.tuple #[.agg #[.slice none 0 0,.slice none 0 0],.bool false]) (by simp [results,Tryz.results26,go_sem,z0,z1]) rfl ⟨rfl,a_c HF.out (a_b _ _)⟩
/-- What giveA and giveB tell at an Op, if it is one. -/
def GvC (op:Int):Prop:=(2<=op/\op<=14->GvP 77 onA op)/\(d_D op->GvP 78 onB op)
theorem GvC.leaf:GvC 1:=⟨fun h=>absurd h (by omega),fun h=>absurd h (by decide)⟩
/-- Every node's own number is Go's; what its Op gives is known. -/
def NodesK (ns:List Nd):Prop:=∀ nd,nd∈ns->InR nd.k/\GvC nd.op
theorem NodesK.nil:NodesK []:=fun nd h=>by simp at h
theorem NodesK.leaf {ns:List Nd} {d x:List Int} (h:NodesK ns):NodesK (c_S ns d x):=by
 unfold c_S
 split
 ·intro nd E;rcases List.mem_append.1 E with D|D
  ·exact h nd D
  ·simp at D;subst D;refine ⟨?_,GvC.leaf⟩;show InR 0;unfold InR;omega
 ·exact h
theorem NodesK.do {ns:List Nd} {op a b k:Int} (h:NodesK ns) (I:InR k) (H:GvC op):NodesK (doN ns op a b k):=by
 unfold doN
 split
 ·intro nd E;rcases List.mem_append.1 E with D|D
  ·exact h nd D
  ·simp at D;subst D;refine ⟨?_,H⟩;show InR (dK op k);unfold dK
   split
   ·exact I
   ·unfold InR;omega
 ·exact h
theorem q_W (k:Int) (a b g:Ten):onA 1 k a b g=([],[]):=by simp [onA]
theorem p_x {op:Int} (h:¬ d_D op) (k:Int) (a b g:Ten):onB op k a b g=([],[]):=by
 have J:op≠2:=fun e=>h (.inl e);have I:op≠3:=fun e=>h (.inr (.inl e));have E:op≠4:=fun e=>h (.inr (.inr (.inl e)));have H:op≠6:=fun e=>h (.inr (.inr (.inr (.inl e))));have D:op≠12:=fun e=>h (.inr (.inr (.inr (.inr e))));simp [onB,J,I,E,H,D]
/-- What Value tells of any number. -/
theorem o_J (B E:Nat) (ns:List Nd) (L:NodesG ns) (i:Int) (w:World) (J:TapC w B E ns):
  Calls Tryz.prog 26 #[.pointer (some ⟨E,0,none⟩),.int .i64 i] w fun e H=>∃ v q,e = .returned (.tuple #[v,.bool q])/\TRes H w.heap.size v (if 0<=i/\i < (ns.length:Int) then (ndN ns i).D else []) (if 0<=i/\i < (ns.length:Int) then (ndN ns i).X else [])/\Below w.heap.size w H:=by
 by_cases h:0<=i/\i < (ns.length:Int)
 ·obtain ⟨j,rfl⟩:∃ j:Nat,i=(j:Int):=⟨i.toNat,by omega⟩
  rw [if_pos h,if_pos h];refine (b_9 B E ns L j _ (c_U (by omega)) w J).mono ?_;rintro e H ⟨v,rfl,M,I⟩;exact ⟨v,true,rfl,M,I⟩
 ·rw [if_neg h,if_neg h];refine (e_2 B E ns i (by omega) w J).mono ?_;rintro e H ⟨rfl,I⟩;exact ⟨_,false,rfl,TRes.none _ _,I⟩
theorem m_V (B tb:Nat) (ns:List Nd) (hG:NodesG ns) (hV:NodesV ns) (aN:NodesK ns) (i:Nat) (op a b k:Int) (D X:List Int) (hi:ns[i]?=some ⟨op,a,b,k,D,X⟩) (ps pt p p2:Option Addr) (O cs nt ct n c n2 c2:Nat) (g:Ten) (hg:b_b g) (eg:g.1=D) (aT:n2<=c2) (w:World) (hT:TapC w B tb ns) (aE:Hid (Tz w)) (h1:Nums .i64 w (.slice p n c) g.1) (h2:Nums .i64 w (.slice p2 n2 c2) g.2):
  Calls Tryz.prog 58 #[.pointer (some ⟨tb,0,none⟩),.agg #[.int .i64 op,.int .i64 a,.int .i64 b,.int .i64 k,.slice ps O cs,.slice pt nt ct],.agg #[.slice p n c,.slice p2 n2 c2]] w fun e w'=>∃ u v,e = .returned (.tuple #[u,v,.int .i64 0])/\TRes w' w.heap.size u (onA op k (aOf ns ⟨op,a,b,k,D,X⟩) (bOf ns ⟨op,a,b,k,D,X⟩) g).1 (onA op k (aOf ns ⟨op,a,b,k,D,X⟩) (bOf ns ⟨op,a,b,k,D,X⟩) g).2/\TRes w' w.heap.size v (onB op k (aOf ns ⟨op,a,b,k,D,X⟩) (bOf ns ⟨op,a,b,k,D,X⟩) g).1 (onB op k (aOf ns ⟨op,a,b,k,D,X⟩) (bOf ns ⟨op,a,b,k,D,X⟩) g).2/\Below w.heap.size w w':=by
 have aP:InR k:=(aN _ (f_P hi)).1;have aZ:GvC op:=(aN _ (f_P hi)).2;obtain ⟨RA,an⟩:∃ R,onA op k (aOf ns ⟨op,a,b,k,D,X⟩) (bOf ns ⟨op,a,b,k,D,X⟩) g=R:=⟨_,rfl⟩
 obtain ⟨RB,am⟩:∃ R,onB op k (aOf ns ⟨op,a,b,k,D,X⟩) (bOf ns ⟨op,a,b,k,D,X⟩) g=R:=⟨_,rfl⟩
 have bf:i < ns.length:=(List.getElem?_eq_some_iff.1 hi).1
 obtain ⟨ta,I,a7,a3,a8,a5⟩:∃ ta I:Ten,
   Hid (∀ W,Below w.heap.size w W->Calls Tryz.prog 26 #[.pointer (some ⟨tb,0,none⟩),.int .i64 a] W fun e w'=>∃ v q,e = .returned (.tuple #[v,.bool q])/\TRes w' W.heap.size v ta.1 ta.2/\Below W.heap.size W w')
   /\ Hid (∀ W,Below w.heap.size w W->Calls Tryz.prog 26 #[.pointer (some ⟨tb,0,none⟩),.int .i64 b] W fun e w'=>∃ v q,e = .returned (.tuple #[v,.bool q])/\TRes w' W.heap.size v I.1 I.2/\Below W.heap.size W w')
   /\ Hid (∀ W V p4 p5 p6 U c3 E H n5 c5 L M,Below w.heap.size w W->Nums .i64 W (.slice V U c3) ta.1->Nums .i64 W (.slice p4 E H) ta.2->Nums .i64 W (.slice p5 n5 c5) I.1->Nums .i64 W (.slice p6 L M) I.2->E<=H->L<=M->Calls Tryz.prog 77 #[.agg #[.int .i64 op,.int .i64 a,.int .i64 b,.int .i64 k,.slice ps O cs,.slice pt nt ct],.agg #[.slice V U c3,.slice p4 E H],.agg #[.slice p5 n5 c5,.slice p6 L M],.agg #[.slice p n c,.slice p2 n2 c2]] W fun e w'=>∃ v',e = .returned (.tuple #[v',.int .i64 0])/\TRes w' W.heap.size v' RA.1 RA.2/\Below W.heap.size W w')
   /\ Hid (∀ W V p4 p5 p6 U c3 E H n5 c5 L M,Below w.heap.size w W->Nums .i64 W (.slice V U c3) ta.1->Nums .i64 W (.slice p4 E H) ta.2->Nums .i64 W (.slice p5 n5 c5) I.1->Nums .i64 W (.slice p6 L M) I.2->E<=H->L<=M->Calls Tryz.prog 78 #[.agg #[.int .i64 op,.int .i64 a,.int .i64 b,.int .i64 k,.slice ps O cs,.slice pt nt ct],.agg #[.slice V U c3,.slice p4 E H],.agg #[.slice p5 n5 c5,.slice p6 L M],.agg #[.slice p n c,.slice p2 n2 c2]] W fun e w'=>∃ v',e = .returned (.tuple #[v',.int .i64 0])/\TRes w' W.heap.size v' RB.1 RB.2/\Below W.heap.size W w'):=by
  have cv:=fun (j:Int) W (hW:Below w.heap.size w W)=>o_J B tb ns hG j W (hT.up hW);by_cases a2:op=1
  ·subst a2;rw [q_W] at an;rw [p_x (by decide)] at am;subst an am;exact ⟨((if 0<=a/\a < (ns.length:Int) then (ndN ns a).D else []),(if 0<=a/\a < (ns.length:Int) then (ndN ns a).X else [])),((if 0<=b/\b < (ns.length:Int) then (ndN ns b).D else []),(if 0<=b/\b < (ns.length:Int) then (ndN ns b).X else [])),fun W hW=>cv a W hW,fun W hW=>cv b W hW,fun W V p4 p5 p6 U c3 E H n5 c5 L M hW _ _ _ _ _ _=>q_V 1 (by decide) ps pt V p4 p5 p6 p p2 O cs nt ct U c3 E H n5 c5 L M n c n2 c2 a b k W,fun W V p4 p5 p6 U c3 E H n5 c5 L M hW _ _ _ _ _ _=>m_S 1 (by decide) ps pt V p4 p5 p6 p p2 O cs nt ct U c3 E H n5 c5 L M n c n2 c2 a b k W⟩
  ·obtain ⟨ok,ho,ha,hb,bd⟩:=OkP.of hG hV hi a2 hg eg;simp only [] at ok ho ha hb bd;have bc:=cv a;rw [if_pos ⟨ha.1,by omega⟩,if_pos ⟨ha.1,by omega⟩] at bc;have a4:=cv b
   have eb:(if 0<=b/\b < (ns.length:Int) then (ndN ns b).D else [])=(bOf ns ⟨op,a,b,k,D,X⟩).1/\(if 0<=b/\b < (ns.length:Int) then (ndN ns b).X else [])=(bOf ns ⟨op,a,b,k,D,X⟩).2:=by
    show _=dD ns op b/\_=dX ns op b;unfold dD dX;by_cases ht:d_D op
    ·have:=hb ht;rw [if_pos ht,if_pos ht,if_pos ⟨this.1,by omega⟩,if_pos ⟨this.1,by omega⟩];exact ⟨rfl,rfl⟩
    ·have:=bd ht;rw [if_neg ht,if_neg ht,if_neg (by omega),if_neg (by omega)];exact ⟨rfl,rfl⟩
   rw [eb.1,eb.2] at a4;refine ⟨aOf ns ⟨op,a,b,k,D,X⟩,bOf ns ⟨op,a,b,k,D,X⟩,bc,a4,fun W V p4 p5 p6 U c3 E H n5 c5 L M hW u1 u2 u3 u4 u5 u6=>?_,fun W V p4 p5 p6 U c3 E H n5 c5 L M hW u1 u2 u3 u4 u5 u6=>?_⟩
   ·rw [<- an];exact aZ.1 ho ps pt V p4 p5 p6 p p2 O cs nt ct U c3 E H n5 c5 L M n c n2 c2 a b k _ _ g aP ok u5 u6 aT W (Hid.up_tz aE hW) u1 u2 u3 u4 (h1.up hW) (h2.up hW)
   ·rw [<- am];by_cases ht:d_D op
    ·exact aZ.2 ht ps pt V p4 p5 p6 p p2 O cs nt ct U c3 E H n5 c5 L M n c n2 c2 a b k _ _ g aP ok u5 u6 aT W (Hid.up_tz aE hW) u1 u2 u3 u4 (h1.up hW) (h2.up hW)
    ·rw [p_x ht];exact m_S op ht ps pt V p4 p5 p6 p p2 O cs nt ct U c3 E H n5 c5 L M n c n2 c2 a b k W
 rw [an,am];clear an am aP aZ bf hG hV aN hi hg eg aT hT aE h1 h2;go_enter Tryz.func58,Tryz.ntmps58;go_wp2_with fail
 generalize ae:World.alloc _ _=W0;have bb:=b_1 (w:=w) ae (by go_grown)
 have XN:Hid (W0.heap[w.heap.size]?=some (.cells #[.int .i64 op,.int .i64 a,.int .i64 b,.int .i64 k,.slice ps O cs,.slice pt nt ct] 107 (0,0))):=by
  show _=_;rw [<- ae];exact ((a_b _ _).block _ (by simp;try omega)).trans (((a_b _ _).block _ (by simp;try omega)).trans (((a_b _ _).block _ (by simp;try omega)).trans (heap_alloc_new _ _)))
 have XG:Hid (Cel W0 (w.heap.size+1) (.slice p n c) (.slice p2 n2 c2)):=a_F ae (by simp [go_sem]);have X6:Hid (Cel W0 (w.heap.size+2) (.slice none 0 0) (.slice none 0 0)):=a_F ae (by simp [go_sem]);have X7:Hid (Cel W0 (w.heap.size+3) (.slice none 0 0) (.slice none 0 0)):=a_F ae (by simp [go_sem]);clear ae;refine (a7.out W0 bb.out).mono ?_;rintro e w1 ⟨v1,q1,rfl,⟨s1,t1,rfl,aL,ax⟩,av⟩;obtain ⟨V,U,c3,rfl⟩:=aL.form_;obtain ⟨p4,E,H,rfl⟩:=ax.form_;have aI:=a_N (a_c bb.out av) av;have aA:Hid (Nums .i64 w1 (.slice V U c3) ta.1/\Nums .i64 w1 (.slice p4 E H) ta.2/\E<=H):=⟨aL.nums,ax.nums,ax.cap⟩
 have aM:w1.heap[w.heap.size]?=some (.cells #[.int .i64 op,.int .i64 a,.int .i64 b,.int .i64 k,.slice ps O cs,.slice pt nt ct] 107 (0,0)):=(av.block _ (a_i XN.out)).trans XN.out;obtain ⟨⟨k0,k1,k2,k3,k4,k5⟩,_⟩:=g_s aM;have kz:=a_i aM;clear aL ax av a7;go_wp2_with fail
 generalize aS:World.alloc _ _=W2;have B2:Below w1.heap.size w1 W2:=by rw [<- aS];exact a_b _ _
 have a9:Hid (Cel W2 w1.heap.size (.slice V U c3) (.slice p4 E H)):=a_F aS (by simp [go_sem]);have au:=a_N (a_c aI.out.1 B2) (a_c aI.out.2 B2);have ay:Hid (Nums .i64 W2 (.slice V U c3) ta.1/\Nums .i64 W2 (.slice p4 E H) ta.2/\E<=H):=⟨aA.out.1.up B2,aA.out.2.1.up B2,aA.out.2.2⟩
 clear aS B2 aI aA aM k0 k1 k2 k3 k4 k5 kz;refine (a3.out W2 au.out.1).mono ?_;rintro e w3 ⟨v3,q3,rfl,⟨s3,t3,rfl,aF,ar⟩,af⟩;obtain ⟨p5,n5,c5,rfl⟩:=aF.form_;obtain ⟨p6,L,M,rfl⟩:=ar.form_;have ak:=a_N (a_c au.out.1 af) (a_c au.out.2 af);have ad:Hid ((Nums .i64 w3 (.slice V U c3) ta.1/\Nums .i64 w3 (.slice p4 E H) ta.2/\E<=H)/\Nums .i64 w3 (.slice p5 n5 c5) I.1/\Nums .i64 w3 (.slice p6 L M) I.2/\L<=M):=⟨⟨ay.out.1.up af,ay.out.2.1.up af,ay.out.2.2⟩,aF.nums,ar.nums,ar.cap⟩
 have aV:w3.heap[w.heap.size]?=some (.cells #[.int .i64 op,.int .i64 a,.int .i64 b,.int .i64 k,.slice ps O cs,.slice pt nt ct] 107 (0,0)):=(ak.out.2.block _ (a_i XN.out)).trans XN.out;have aO:Hid (Cel w3 w1.heap.size (.slice V U c3) (.slice p4 E H)):=a9.out.up af;obtain ⟨⟨k0,k1,k2,k3,k4,k5⟩,_⟩:=g_s aV;have kz:=a_i aV;obtain ⟨aj,aG,_,_⟩:=aO.out;have ka:=a_a aj;obtain ⟨aq,aR,_,_⟩:=XG.out.up ak.out.2;have kg:=a_a aq;clear aF ar af a3 au ay a9;go_wp2_with fail
 generalize aB:World.alloc _ _=W4;have B4:Below w3.heap.size w3 W4:=by rw [<- aB];exact a_b _ _
 have ba:Hid (Cel W4 w3.heap.size (.slice p5 n5 c5) (.slice p6 L M)):=a_F aB (by simp [go_sem]);have a1:Hid (Cel W4 w1.heap.size (.slice V U c3) (.slice p4 E H)):=aO.out.up B4;have ag:=a_N (a_c ak.out.1 B4) (a_c ak.out.2 B4);have J:Hid ((Nums .i64 W4 (.slice V U c3) ta.1/\Nums .i64 W4 (.slice p4 E H) ta.2/\E<=H)/\Nums .i64 W4 (.slice p5 n5 c5) I.1/\Nums .i64 W4 (.slice p6 L M) I.2/\L<=M):=⟨⟨ad.out.1.1.up B4,ad.out.1.2.1.up B4,ad.out.1.2.2⟩,ad.out.2.1.up B4,ad.out.2.2.1.up B4,ad.out.2.2.2⟩
 clear aB B4 ak ad aV k0 k1 k2 k3 k4 k5 kz aj aG ka aq aR kg aO;refine (a8.out W4 _ _ _ _ _ _ _ _ _ _ _ _ ag.out.1 J.out.1.1 J.out.1.2.1 J.out.2.1 J.out.2.2.1 J.out.1.2.2 J.out.2.2.2).mono ?_;rintro e w5 ⟨v5,rfl,⟨s5,t5,rfl,aQ,aW⟩,aa⟩;obtain ⟨pa,na,ca,rfl⟩:=aQ.form_;obtain ⟨pb,nb,cb,rfl⟩:=aW.form_;have ap:=a_N (a_c ag.out.1 aa) (a_c ag.out.2 aa);have ab:Hid ((Nums .i64 w5 (.slice V U c3) ta.1/\Nums .i64 w5 (.slice p4 E H) ta.2/\E<=H)/\Nums .i64 w5 (.slice p5 n5 c5) I.1/\Nums .i64 w5 (.slice p6 L M) I.2/\L<=M):=⟨⟨J.out.1.1.up aa,J.out.1.2.1.up aa,J.out.1.2.2⟩,J.out.2.1.up aa,J.out.2.2.1.up aa,J.out.2.2.2⟩
 have aJ:Hid (OwnK .i64 3 w5 W0.heap.size (.slice pa na ca) RA.1/\OwnK .i64 48 w5 W0.heap.size (.slice pb nb cb) RA.2):=⟨aQ.low ag.out.2.size,aW.low ag.out.2.size⟩
 have aH:w5.heap[w.heap.size]?=some (.cells #[.int .i64 op,.int .i64 a,.int .i64 b,.int .i64 k,.slice ps O cs,.slice pt nt ct] 107 (0,0)):=(ap.out.2.block _ (a_i XN.out)).trans XN.out;obtain ⟨⟨k0,k1,k2,k3,k4,k5⟩,_⟩:=g_s aH;have kz:=a_i aH;obtain ⟨aj,aG,_,_⟩:=a1.out.up aa;have ka:=a_a aj;obtain ⟨be,bi,_,_⟩:=ba.out.up aa;have kb:=a_a be;obtain ⟨aq,aR,_,_⟩:=XG.out.up ap.out.2;have kg:=a_a aq;clear aQ aW aa a8 ag J a1 ba;go_wp2_with fail
 generalize aK:World.alloc _ _=W6;have B6:Below w5.heap.size w5 W6:=by rw [<- aK];exact a_b _ _
 have a6:Hid (Cel W6 w5.heap.size (.slice pa na ca) (.slice pb nb cb)):=a_F aK (by simp [go_sem]);have ai:=a_N (a_c ap.out.1 B6) (a_c ap.out.2 B6);have ac:Hid ((Nums .i64 W6 (.slice V U c3) ta.1/\Nums .i64 W6 (.slice p4 E H) ta.2/\E<=H)/\Nums .i64 W6 (.slice p5 n5 c5) I.1/\Nums .i64 W6 (.slice p6 L M) I.2/\L<=M):=⟨⟨ab.out.1.1.up B6,ab.out.1.2.1.up B6,ab.out.1.2.2⟩,ab.out.2.1.up B6,ab.out.2.2.1.up B6,ab.out.2.2.2⟩
 have aY:Hid (OwnK .i64 3 W6 W0.heap.size (.slice pa na ca) RA.1/\OwnK .i64 48 W6 W0.heap.size (.slice pb nb cb) RA.2):=⟨aJ.out.1.up B6,aJ.out.2.up B6⟩
 clear aK B6 ap ab aH k0 k1 k2 k3 k4 k5 kz aj aG ka be bi kb aq aR kg aJ;refine (a5.out W6 _ _ _ _ _ _ _ _ _ _ _ _ ai.out.1 ac.out.1.1 ac.out.1.2.1 ac.out.2.1 ac.out.2.2.1 ac.out.1.2.2 ac.out.2.2.2).mono ?_;rintro e w7 ⟨v7,rfl,⟨s7,t7,rfl,aU,aX⟩,ah⟩;obtain ⟨pc,nc,cc,rfl⟩:=aU.form_;obtain ⟨pd,nd,cd,rfl⟩:=aX.form_;have aw:=a_N (a_c ai.out.1 ah) (a_c ai.out.2 ah);have ao:Hid ((OwnK .i64 3 w7 W0.heap.size (.slice pa na ca) RA.1/\OwnK .i64 48 w7 W0.heap.size (.slice pb nb cb) RA.2)/\OwnK .i64 3 w7 W0.heap.size (.slice pc nc cc) RB.1/\OwnK .i64 48 w7 W0.heap.size (.slice pd nd cd) RB.2):=⟨⟨aY.out.1.up ah,aY.out.2.up ah⟩,aU.low ai.out.2.size,aX.low ai.out.2.size⟩
 have a0:Hid (Cel w7 w5.heap.size (.slice pa na ca) (.slice pb nb cb)):=a6.out.up ah;clear aU aX ah a5 ai ac a6 aY;go_wp2_with fail
 generalize aD:World.alloc _ _=W8;have B8:Below w7.heap.size w7 W8:=by rw [<- aD];exact a_b _ _
 have bj:Cel W8 w7.heap.size (.slice pc nc cc) (.slice pd nd cd):=(a_F aD (by simp [go_sem])).out;have bg:=a0.out.up B8;have aC:=a_N (a_c aw.out.1 B8) (a_c aw.out.2 B8);have az:Hid ((OwnK .i64 3 W8 W0.heap.size (.slice pa na ca) RA.1/\OwnK .i64 48 W8 W0.heap.size (.slice pb nb cb) RA.2)/\OwnK .i64 3 W8 W0.heap.size (.slice pc nc cc) RB.1/\OwnK .i64 48 W8 W0.heap.size (.slice pd nd cd) RB.2):=⟨⟨ao.out.1.1.up B8,ao.out.1.2.up B8⟩,ao.out.2.1.up B8,ao.out.2.2.up B8⟩
 have bn:=a_a a0.out.1;have bl:=aw.out.2.size;have bm:=a_a X7.out.1;have x6:=X6.out.up aC.out.2;have x7:=X7.out.up aC.out.2;have bh:Hid (Cel W8 (w.heap.size+2) (.slice none 0 0) (.slice none 0 0)):=x6;have bk:Hid (Cel W8 (w.heap.size+3) (.slice none 0 0) (.slice none 0 0)):=x7;obtain ⟨u0,u1,u2,u3⟩:=x6;obtain ⟨v0,v1,v2,v3⟩:=x7;obtain ⟨f0,f1,_,_⟩:=bg;obtain ⟨y0,y1,_,_⟩:=bj;have j0:=a_a u0;have j1:=a_a v0;have j2:=a_a f0;have j3:=a_a y0;clear aD B8 aw ao a0;go_region;generalize hZ:World.drew _=Z;obtain ⟨HZ,⟨e0,e1⟩,e2,e3⟩:=s_i (w:=w) (B:=W0.heap.size) (Z:=Z) rfl (by rw [<- hZ];exact c_V (Below.refl _ _)) bh.out bk.out (by omega) aC.out.1 (by omega) (by omega) (by omega) (by omega) az.out.1.1 az.out.1.2 az.out.2.1 az.out.2.2;clear hZ;go_wp2;exact bodyPost_ret (v:=.tuple #[.agg #[.slice pa na ca,.slice pb nb cb],.agg #[.slice pc nc cc,.slice pd nd cd],.int .i64 0]) (by simp [results,Tryz.results58,go_sem,e0,e1,e2,e3]) rfl ⟨_,_,rfl,HZ.out⟩
theorem NodesV.ls {ns:List Nd} {s:Nd} (h:NodesV ns):NodesV (lsN ns s):=by
 unfold lsN
 split
 ·exact h.leaf
 ·exact h.do
theorem NodesV.lyF {ns sts:List Nd} (h:NodesV ns):∀ i,NodesV (lyF sts ns i).2.1
 | 0=>h
 | i+1=>by
  show NodesV (if (Wd.lyF sts ns i).1=0 then (lsE (Wd.lyF sts ns i).2.1 (stA sts i),lsN (Wd.lyF sts ns i).2.1 (stA sts i),lsR (Wd.lyF sts ns i).2.1 (stA sts i)) else Wd.lyF sts ns i).2.1
  split
  ·exact (NodesV.lyF h i).ls
  ·exact NodesV.lyF h i
theorem NodesV.lo {ns sts:List Nd} {e:Int} (h:NodesV ns):NodesV (loN e ns sts):=by
 unfold loN
 split
 ·unfold lyM
  split
  ·exact NodesV.lyF h _
  ·exact h
 ·exact h
theorem q_X {op:Int} (h:op=2∨op=3∨op=4∨op=9∨op=10∨op=11):GvC op:=by
 rcases h with rfl|rfl|rfl|rfl|rfl|rfl
 ·exact ⟨fun _=>ga2,fun _=>gb2⟩
 ·exact ⟨fun _=>ga3,fun _=>gb3⟩
 ·exact ⟨fun _=>ga4,fun _=>gb4⟩
 ·exact ⟨fun _=>ga9,fun h=>absurd h (by decide)⟩
 ·exact ⟨fun _=>t_0,fun h=>absurd h (by decide)⟩
 ·exact ⟨fun _=>t_O,fun h=>absurd h (by decide)⟩
/-- A step whose node may be swept over. -/
def o_K (s:Nd):Prop:=InR s.k/\(s.op≠1->GvC s.op)
theorem NodesK.ls {ns:List Nd} {s:Nd} (h:NodesK ns) (D:o_K s):NodesK (lsN ns s):=by
 unfold lsN
 split
 ·exact h.leaf
 ·rename_i E
  exact h.do D.1 (D.2 E)
theorem NodesK.lyF {ns sts:List Nd} (h:NodesK ns) (D:∀ i,o_K (stA sts i)):∀ i,NodesK (lyF sts ns i).2.1
 | 0=>h
 | i+1=>by
  show NodesK (if (Wd.lyF sts ns i).1=0 then (lsE (Wd.lyF sts ns i).2.1 (stA sts i),lsN (Wd.lyF sts ns i).2.1 (stA sts i),lsR (Wd.lyF sts ns i).2.1 (stA sts i)) else Wd.lyF sts ns i).2.1
  split
  ·exact (NodesK.lyF h D i).ls (D i)
  ·exact NodesK.lyF h D i
theorem NodesK.lo {ns sts:List Nd} {e:Int} (h:NodesK ns) (D:∀ i,o_K (stA sts i)):NodesK (loN e ns sts):=by
 unfold loN
 split
 ·unfold lyM
  split
  ·exact NodesK.lyF h D _
  ·exact h
 ·exact h
theorem e_k (y:List Int):o_K (lfS y):=⟨by show InR 0;unfold InR;omega,fun h=>absurd rfl h⟩
theorem b_R {op a b k:Int} (h:op=2∨op=3∨op=4∨op=9∨op=10∨op=11) (D:InR k):o_K (opS op a b k):=⟨D,fun _=>q_X h⟩
theorem i_0:o_K ⟨1,0,0,0,[],[]⟩:=⟨by show InR 0;unfold InR;omega,fun h=>absurd rfl h⟩
theorem t_p {N o:Int} {y:List Int}:∀ i,o_K (stA (sqS N o y) i)
 | 0=>e_k y
 | 1=>b_R (by omega) (by unfold InR;omega)
 | 2=>b_R (by omega) (by unfold InR;omega)
 | 3=>b_R (by omega) (by unfold InR;omega)
 | _+4=>i_0
theorem t_q {N o:Int} {y:List Int}:∀ i,o_K (stA (szS N o y) i)
 | 0=>e_k y
 | 1=>b_R (by omega) (by unfold InR;omega)
 | 2=>b_R (by omega) (by unfold InR;omega)
 | 3=>b_R (by omega) (by unfold InR;omega)
 | _+4=>i_0
theorem t_r {N o:Int} {n:Nat} {c:Int}:∀ i,o_K (stA (hgS N o n c) i)
 | 0=>e_k _
 | 1=>e_k _
 | 2=>b_R (by omega) (by unfold InR;omega)
 | 3=>b_R (by omega) (by unfold InR;omega)
 | 4=>b_R (by omega) (by unfold InR;omega)
 | 5=>b_R (by omega) (by unfold InR;omega)
 | 6=>b_R (by omega) (by unfold InR;omega)
 | 7=>b_R (by omega) (by unfold InR;omega)
 | 8=>b_R (by omega) (by unfold InR;omega)
 | _+9=>i_0
end Go.Proofs.YtcpbhhlepdgdkaaGreatDoor.Wd
namespace Go.Proofs.YtcpbhhlepdgdkaaGreatDoor.Wd
/-- A layer: its kind and two numbers. -/
abbrev Ly:=ByteArray×Int×Int
def e_l:ByteArray:=⟨#[100,101,110,115,101]⟩
def i_1:ByteArray:=⟨#[99,111,110,118]⟩
def i_2:ByteArray:=⟨#[112,111,111,108]⟩
def i_3:ByteArray:=⟨#[98,101,110,100]⟩
def e_m:ByteArray:=⟨#[115,107,105,112]⟩
/-- A kind's place in the table; 5: it is none. -/
def a_s (s:ByteArray):Nat:=if s=e_l then 0 else if s=i_1 then 1 else if s=i_2 then 2 else if s=i_3 then 3 else if s=e_m then 4 else 5
def b_K (i:Nat):ByteArray:=[e_l,i_1,i_2,i_3,e_m].getD i ⟨#[]⟩
theorem d_E (s:ByteArray):(s=e_l/\a_s s=0)∨(s=i_1/\a_s s=1)∨(s=i_2/\a_s s=2)∨(s=i_3/\a_s s=3)∨(s=e_m/\a_s s=4)∨((s≠e_l/\s≠i_1/\s≠i_2/\s≠i_3/\s≠e_m)/\a_s s=5):=by
 by_cases E:s=e_l
 ·exact .inl ⟨E,by rw [E];decide +kernel⟩
 by_cases J:s=i_1
 ·exact .inr (.inl ⟨J,by rw [J];decide +kernel⟩)
 by_cases I:s=i_2
 ·exact .inr (.inr (.inl ⟨I,by rw [I];decide +kernel⟩))
 by_cases H:s=i_3
 ·exact .inr (.inr (.inr (.inl ⟨H,by rw [H];decide +kernel⟩)))
 by_cases D:s=e_m
 ·exact .inr (.inr (.inr (.inr (.inl ⟨D,by rw [D];decide +kernel⟩))))
 ·exact .inr (.inr (.inr (.inr (.inr ⟨⟨E,J,I,H,D⟩,by simp [a_s,E,J,I,H,D]⟩))))
theorem m_W (s:ByteArray):a_s s<=5:=by
 rcases d_E s with h|h|h|h|h|h <;> omega
theorem i_g (s:ByteArray) (h:a_s s < 5):b_K (a_s s)=s:=by
 rcases d_E s with ⟨rfl,e⟩|⟨rfl,e⟩|⟨rfl,e⟩|⟨rfl,e⟩|⟨rfl,e⟩|⟨_,e⟩
 ·rw [e];rfl
 ·rw [e];rfl
 ·rw [e];rfl
 ·rw [e];rfl
 ·rw [e];rfl
 ·omega
def h_x (i:Nat):Nat:=if i=1 then 2 else if i < 4 then 1 else 0
def c_v (i:Nat):Int:=if i=0 then 256 else if i=1 then 16 else if i=2 then 16 else if i=3 then 5 else 0
def d_k (i:Nat):Int:=if i=1 then 16 else 0
/-- May a layer's kind and numbers be? -/
abbrev a_R (l:Ly):Prop:=a_s l.1 < 5/\(if 0 < h_x (a_s l.1) then 1<=l.2.1/\l.2.1<=c_v (a_s l.1) else l.2.1=0)/\(if 1 < h_x (a_s l.1) then 1<=l.2.2/\l.2.2<=d_k (a_s l.1) else l.2.2=0)
theorem a_L {l:Ly} (h:a_R l):(l.1=e_l/\a_s l.1=0/\(1<=l.2.1/\l.2.1<=256)/\l.2.2=0)∨(l.1=i_1/\a_s l.1=1/\(1<=l.2.1/\l.2.1<=16)/\1<=l.2.2/\l.2.2<=16)∨(l.1=i_2/\a_s l.1=2/\(1<=l.2.1/\l.2.1<=16)/\l.2.2=0)∨(l.1=i_3/\a_s l.1=3/\(1<=l.2.1/\l.2.1<=5)/\l.2.2=0)∨(l.1=e_m/\a_s l.1=4/\l.2.1=0/\l.2.2=0):=by
 obtain ⟨H,E,D⟩:=h;rcases d_E l.1 with ⟨e,k⟩|⟨e,k⟩|⟨e,k⟩|⟨e,k⟩|⟨e,k⟩|⟨_,k⟩ <;> rw [k] at H E D <;> simp [h_x,c_v,d_k] at E D
 ·exact .inl ⟨e,k,E,D⟩
 ·exact .inr (.inl ⟨e,k,E,D⟩)
 ·exact .inr (.inr (.inl ⟨e,k,E,D⟩))
 ·exact .inr (.inr (.inr (.inl ⟨e,k,E,D⟩)))
 ·exact .inr (.inr (.inr (.inr ⟨e,k,E,D⟩)))
 ·omega
/-- What comes in. -/
def InOk (d:List Int):Prop:=(∃ x,d = [x]/\1<=x/\x<=1024)∨∃ x y,d = [x,y]/\(1<=x/\x<=64)/\1<=y/\y<=64
def d_V (d:List Int):Bool:=match d with
 | [x]=>decide (1<=x/\x<=1024)
 | [x,y]=>decide ((1<=x/\x<=64)/\1<=y/\y<=64)
 | _=>false
theorem m_X (d:List Int):d_V d=true↔InOk d:=by
 unfold InOk
 match d with
 | []=>simp [d_V]
 | [x]=>simp [d_V]
 | [x,y]=>
  simp only [d_V,decide_eq_true_eq]
  exact ⟨fun h=>.inr ⟨x,y,rfl,h⟩,fun h=>by
   rcases h with ⟨_,h,_⟩|⟨_,_,h,D⟩
   ·simp at h
   ·simp only [List.cons.injEq,and_true] at h;obtain ⟨rfl,rfl⟩:=h;exact D⟩
 | x :: y :: z :: r=>simp [d_V]
def b_L (d:List Int) (ls:List Ly):Bool:=d_V d && ls.all fun l=>decide (a_R l)
def a_u (l:List Int):Int:=l.foldl (·*·) 1
def d_F (l:Ly) (d:List Int):Option (List Int):=
 if a_s l.1=0 then some [l.2.1]
 else if a_s l.1=1 then (if d.length=2/\l.2.2<=d.getD 1 0 then some [l.2.1,d.getD 1 0 - l.2.2+1] else none)
 else if a_s l.1=2 then (if d.length=2/\l.2.1<=d.getD 1 0 then some [d.getD 0 0,Int.tdiv (d.getD 1 0) l.2.1] else none)
 else some d
def c_w (l:Ly) (d:List Int):List (List Int):=if a_s l.1=0 then [[l.2.1,a_u d],[l.2.1]] else if a_s l.1=1 then [[l.2.1,d.getD 0 0,l.2.2]] else []
def lyD:Ly:=(⟨#[]⟩,0,0)
def lyA (ls:List Ly) (i:Nat):Ly:=ls.getD i lyD
def shA (S:List (List Int)) (i:Nat):List Int:=S.getD i []
/-- May the i-th layer, a skip, add what went into the one ahead? -/
abbrev c_1 (ls:List Ly) (S:List (List Int)) (i:Nat):Prop:=0 < i/\(lyA ls (i - 1)).1≠e_m/\shA S (i - 1)=shA S i
def f_8 (ls:List Ly) (i:Nat) (S:List (List Int)):Option (List (List Int)):=
 if (lyA ls i).1=e_m/\¬ c_1 ls S i then none else (d_F (lyA ls i) (shA S i)).map fun o=>S++[o]
/-- What comes in, and what goes out of the first i layers. -/
def shN (d:List Int) (ls:List Ly):Nat->Option (List (List Int))
 | 0=>some [d]
 | i+1=>(shN d ls i).bind (f_8 ls i)
theorem k_e {d:List Int} {ls:List Ly} {i:Nat} (h:shN d ls i=none):∀ k,shN d ls (i+k)=none
 | 0=>h
 | k+1=>by rw [<- Nat.add_assoc];show (shN d ls (i+k)).bind _=none;rw [k_e h k];rfl
theorem b_o {d:List Int} {ls:List Ly} {i n:Nat} (h:shN d ls i=none) (D:i<=n):shN d ls n=none:=by
 have:=k_e h (n - i);rwa [show i+(n - i)=n by omega] at this
theorem a_G {d:List Int} {ls:List Ly} {i:Nat} {S:List (List Int)} (h:shN d ls i=some S):shN d ls (i+1)=f_8 ls i S:=by
 show (shN d ls i).bind _=_;rw [h];rfl
theorem c_W {d:List Int} {ls:List Ly}:∀ {i:Nat} {S:List (List Int)},shN d ls i=some S->S.length=i+1
 | 0,S,h=>by cases h;rfl
 | i+1,S,h=>by
  cases D:shN d ls i with
  | none=>rw [b_o D (Nat.le_succ i)] at h;cases h
  | some S0=>
   rw [a_G D] at h;unfold f_8 at h
   split at h
   ·cases h
   ·obtain ⟨o,E,rfl⟩:=Option.map_eq_some_iff.1 h;rw [List.length_append,c_W D];rfl
theorem e_n {ls:List Ly} {i:Nat} {S D:List (List Int)} (h:f_8 ls i S=some D):∃ o,D=S++[o]/\d_F (lyA ls i) (shA S i)=some o:=by
 unfold f_8 at h
 split at h
 ·cases h
 ·obtain ⟨o,E,rfl⟩:=Option.map_eq_some_iff.1 h;exact ⟨o,rfl,E⟩
theorem d_W {ls:List Ly} {i:Nat} (h:i < ls.length):lyA ls i∈ls:=by
 unfold lyA;rw [List.getD_eq_getElem?_getD,List.getElem?_eq_getElem h];exact List.getElem_mem _
theorem d_X {S:List (List Int)} {i:Nat} (T:List (List Int)) (h:i < S.length):shA (S++T) i=shA S i:=by
 unfold shA;rw [List.getD_eq_getElem?_getD,List.getD_eq_getElem?_getD,List.getElem?_append_left h]
theorem g_9 (S:List (List Int)) (o:List Int) (i:Nat) (h:S.length=i):shA (S++[o]) i=o:=by
 subst h;unfold shA;simp
theorem InOk.out {l:Ly} {d o:List Int} (D:InOk d) (M:a_R l) (h:d_F l d=some o):InOk o:=by
 unfold d_F at h;rcases a_L M with ⟨_,k,H,E⟩|⟨_,k,H,E⟩|⟨_,k,H,E⟩|⟨_,k,H,E⟩|⟨_,k,H,E⟩ <;> rw [k] at h <;> simp at h
 ·subst h;exact .inl ⟨_,rfl,by omega,by omega⟩
 ·obtain ⟨⟨J,I⟩,rfl⟩:=h;rcases D with ⟨x,rfl,_⟩|⟨x,y,rfl,L,O⟩
  ·simp at J
  ·simp at I ⊢;exact .inr ⟨_,_,rfl,by omega,by omega,by omega⟩
 ·obtain ⟨⟨J,I⟩,rfl⟩:=h;rcases D with ⟨x,rfl,_⟩|⟨x,y,rfl,L,O⟩
  ·simp at J
  ·simp at I ⊢;refine .inr ⟨_,_,rfl,L,?_,?_⟩
   ·rw [Int.tdiv_eq_ediv_of_nonneg (by omega)];exact (Int.le_ediv_iff_mul_le (by omega)).2 (by omega)
   ·rw [Int.tdiv_eq_ediv_of_nonneg (by omega)];have:=Int.ediv_le_self l.2.1 (a:=y) (by omega);omega
 ·subst h;exact D
 ·subst h;exact D
theorem e_o {d:List Int} {ls:List Ly} (I:InOk d) (H:∀ l∈ls,a_R l):∀ {i:Nat} {S:List (List Int)},i<=ls.length->shN d ls i=some S->∀ k,k < i+1->InOk (shA S k)
 | 0,S,_,h,k,hk=>by
  cases h;obtain rfl:k=0:=by omega
  exact I
 | i+1,S,hi,h,k,hk=>by
  cases D:shN d ls i with
  | none=>rw [b_o D (Nat.le_succ i)] at h;cases h
  | some S0=>
   rw [a_G D] at h;obtain ⟨o,rfl,L⟩:=e_n h;have J:=c_W D;rcases Nat.lt_or_ge k (i+1) with E|E
   ·rw [d_X _ (by omega)];exact e_o I H (by omega) D k E
   ·rw [g_9 S0 o k (by omega)];exact (e_o I H (by omega) D i (by omega)).out (H _ (d_W (by omega))) L
theorem c_E (x:Int):a_u [x]=x:=by simp [a_u]
theorem c_F (x y:Int):a_u [x,y]=x*y:=by simp [a_u]
theorem c_X (x y z:Int):a_u [x,y,z]=x*y*z:=by simp [a_u]
theorem a_3 {x y a b:Int} (E:1<=x/\x<=a) (D:1<=y/\y<=b):1<=x*y/\x*y<=a*b:=by
 refine ⟨?_,Int.mul_le_mul E.2 D.2 (by omega) (by omega)⟩;have:=Int.mul_le_mul E.1 D.1 (by omega) (by omega);omega
theorem InOk.prod {d:List Int} (h:InOk d):1<=a_u d/\a_u d<=4096:=by
 rcases h with ⟨x,rfl,h⟩|⟨x,y,rfl,E,D⟩
 ·rw [c_E];omega
 ·rw [c_F];have:=a_3 E D;omega
/-- How many parameters a layer has. -/
def psz (l:Ly) (d:List Int):Int:=if a_s l.1=0 then l.2.1*a_u d+l.2.1 else if a_s l.1=1 then l.2.1*d.getD 0 0*l.2.2 else 0
def c_a (ls:List Ly) (S:List (List Int)):Nat->Int
 | 0=>0
 | i+1=>c_a ls S i+psz (lyA ls i) (shA S i)
theorem e_G {l:Ly} {d:List Int} (H:InOk d) (I:a_R l):0<=psz l d/\psz l d<=1049600:=by
 unfold psz;have J:=H.prod;rcases a_L I with ⟨_,k,D,E⟩|⟨_,k,D,E⟩|⟨_,k,D,E⟩|⟨_,k,D,E⟩|⟨_,k,D,E⟩ <;> rw [k] <;> simp
 ·have:=a_3 D J;omega
 ·rcases H with ⟨x,rfl,h⟩|⟨x,y,rfl,L,M⟩
  ·have:=a_3 (a_3 D h) E;simp;omega
  ·have:=a_3 (a_3 D L) E;simp;omega
theorem h_a {ls:List Ly} {S:List (List Int)}:∀ {i:Nat},(∀ k,k < i->InOk (shA S k))->(∀ k,k < i->a_R (lyA ls k))->0<=c_a ls S i/\c_a ls S i<=1049600*(i:Int)
 | 0,_,_=>by simp [c_a]
 | i+1,h,h2=>by
  have:=h_a (fun k D=>h k (by omega)) (fun k D=>h2 k (by omega)) (i:=i);have E:=e_G (h i (by omega)) (h2 i (by omega));simp only [c_a];omega
/-- More than may be: the reasons, the first i layers' parameters among them. -/
def i_t (S:List (List Int)):Bool:=S.any fun s=>decide (4096 < a_u s)
def s_j (l:Ly) (d:List Int):Bool:=(c_w l d).any fun s=>decide (4096 < a_u s)
def l_h (ls:List Ly) (S:List (List Int)):Nat->Bool
 | 0=>false
 | i+1=>l_h ls S i || s_j (lyA ls i) (shA S i)
def e_Q (ls:List Ly) (S:List (List Int)):Bool:=decide (16 < ls.length) || i_t S || l_h ls S ls.length || decide (4096 < c_a ls S ls.length)
/-- What Shapes answers: an error, shapes, how many parameters. -/
def nE (d:List Int) (ls:List Ly):Int:=if b_L d ls=true then (match shN d ls ls.length with|none=>4|some S=>if e_Q ls S=true then 2 else 0) else 1
def nS (d:List Int) (ls:List Ly):List (List Int):=if nE d ls=0 then (shN d ls ls.length).getD [] else []
def nP (d:List Int) (ls:List Ly):Int:=if nE d ls=0 then c_a ls ((shN d ls ls.length).getD []) ls.length else 0
theorem c_j (d:List Int) (ls:List Ly):b_L d ls=true↔InOk d/\∀ l∈ls,a_R l:=by
 unfold b_L;rw [Bool.and_eq_true,m_X,List.all_eq_true];simp only [decide_eq_true_eq]
theorem m_Y {d:List Int} {ls:List Ly} (h:¬ b_L d ls=true):nE d ls=1:=by unfold nE;rw [if_neg h]
theorem d_l {d:List Int} {ls:List Ly} (h:b_L d ls=true) (D:shN d ls ls.length=none):nE d ls=4:=by unfold nE;rw [if_pos h,D]
theorem m_Z {d:List Int} {ls:List Ly} {S:List (List Int)} (h:b_L d ls=true) (E:shN d ls ls.length=some S) (D:e_Q ls S=true):nE d ls=2:=by unfold nE;rw [if_pos h,E];simp [D]
theorem k_U {d:List Int} {ls:List Ly} {S:List (List Int)} (h:b_L d ls=true) (D:shN d ls ls.length=some S) (E:e_Q ls S=false):nE d ls=0/\nS d ls=S/\nP d ls=c_a ls S ls.length:=by
 have e:nE d ls=0:=by unfold nE;rw [if_pos h,D];simp [E]
 refine ⟨e,?_,?_⟩
 ·unfold nS;rw [if_pos e,D];rfl
 ·unfold nP;rw [if_pos e,D];rfl
theorem i_h {d:List Int} {ls:List Ly} (h:nE d ls≠0):nS d ls = []/\nP d ls=0:=⟨if_neg h,if_neg h⟩
/-- What a good net is. -/
theorem e_3 {d:List Int} {ls:List Ly} (h:nE d ls=0):∃ S,b_L d ls=true/\shN d ls ls.length=some S/\e_Q ls S=false:=by
 unfold nE at h
 split at h
 ·rename_i hf
  cases D:shN d ls ls.length with
  | none=>rw [D] at h;simp at h
  | some S=>
   rw [D] at h;refine ⟨S,hf,rfl,?_⟩;cases E:e_Q ls S with
   | false=>rfl
   | true=>simp [E] at h
 ·cases h
end Go.Proofs.YtcpbhhlepdgdkaaGreatDoor.Wd
namespace Go.Proofs.YtcpbhhlepdgdkaaGreatDoor.Wd
open Go.RowKit
/-- A slice of layers. -/
def LyR (L:TypeId) (W:World) (p:Option Addr) (n:Nat) (ls:List Ly):Prop:=ls.length=n/\∀ i,i < n->∃ q o,p=some ⟨q,o,none⟩/\W.cell? ⟨q,o+i*3,none⟩=some (.string (lyA ls i).1)/\W.cell? ⟨q,o+i*3+1,none⟩=some (.int .i64 (lyA ls i).2.1)/\W.cell? ⟨q,o+i*3+2,none⟩=some (.int .i64 (lyA ls i).2.2)
theorem LyR.up {L:TypeId} {W W':World} {p:Option Addr} {n:Nat} {ls:List Ly} (h:LyR L W p n ls) (D:Below W.heap.size W W'):LyR L W' p n ls:=⟨h.1,fun i H=>by
 obtain ⟨q,o,e,J,E,I⟩:=h.2 i H;exact ⟨q,o,e,a_h D J,a_h D E,a_h D I⟩⟩
def Kz (w:World):Prop:=∀ i,i < 5->w.cell? ⟨0,i*4,none⟩=some (.string (b_K i))/\w.cell? ⟨0,i*4+1,none⟩=some (.int .i64 (h_x i))/\w.cell? ⟨0,i*4+2,none⟩=some (.int .i64 (c_v i))/\w.cell? ⟨0,i*4+3,none⟩=some (.int .i64 (d_k i))
theorem Hid.up_kz {w D:World} (h:Hid (Kz w)) (hb:Below w.heap.size w D):Hid (Kz D):=fun i L=>by
 obtain ⟨J,I,H,E⟩:=h.out i L;exact ⟨a_h hb J,a_h hb I,a_h hb H,a_h hb E⟩
theorem e_H (v t:Int) (w:World):Calls Tryz.prog 81 #[.int .i64 v,.int .i64 t] w fun e L=>e = .returned (.bool (decide (1<=v/\v<=t)))/\L=w:=by
 obtain ⟨z,D⟩:∃ z,decide (1<=v/\v<=t)=z:=⟨_,rfl⟩
 have E:Hid (decide (1<=v/\v<=t)=z):=D;rw [D];clear D;go_enter Tryz.func81,Tryz.ntmps81;by_cases M:1<=v
 ·by_cases I:v<=t
  ·go_wp2;go_ret;exact ⟨by rw [<- E.out,decide_eq_true ⟨M,I⟩];rfl,rfl⟩
  ·have J:t < v:=by omega
   go_wp2;go_ret;exact ⟨by rw [<- E.out,decide_eq_false fun h=>by omega];rfl,rfl⟩
 ·have H:v < 1:=by omega
  go_wp2;go_ret;exact ⟨by rw [<- E.out,decide_eq_false fun h=>by omega];rfl,rfl⟩
theorem g_v (l:List Int) (x:Int):a_u (l++[x])=a_u l*x:=by simp [a_u]
/-- Sides so small that their product can't run over. -/
def k_V (l:List Int):Prop:=l.length<=4/\∀ k,k<=l.length->-9223372036854775808<=a_u (l.take k)/\a_u (l.take k)<=9223372036854775807
theorem d_m (v:Value) (l:List Int) (O:k_V l) (w:World) (V:Nums .i64 w v l):
  Calls Tryz.prog 34 #[v] w fun e w'=>e = .returned (.int .i64 (a_u l))/\w'=w:=by
 obtain ⟨p,n,c,rfl,J⟩:=V.lst;have HL:Hid (k_V l):=O;have ab:(n:Int)<=4:=by have:=O.1;rw [J.out.1] at this;omega
 obtain ⟨r,L⟩:∃ r:Int,a_u l=r:=⟨_,rfl⟩
 have HR:Hid (a_u l=r):=L;rw [L];clear L V O;go_enter Tryz.func34,Tryz.ntmps34;go_wp2_with fail
 go_loopg [3,8] n (fun gg u v wr=>∃ (k:Nat) (x:Int),k<=n/\gg=n - k/\u = .int .i64 x/\v = .int .i64 (k:Int)/\Hid (x=a_u (l.take k))/\wr=w)
 case atStart=>exact ⟨0,1,by omega,by omega,rfl,rfl,rfl,rfl⟩
 case round=>
  obtain ⟨k,x,hk,hg,rfl,rfl,Hx,rfl⟩:=hrel;by_cases H:k < n
  ·have aa:(k:Int) < (n:Int):=by omega
   obtain ⟨q,o,rfl,D⟩:=J.out.2 k H;have E:k < l.length:=by rw [J.out.1];exact H
   obtain ⟨y,M⟩:∃ y,l.getD k 0=y:=⟨_,rfl⟩
   rw [M] at D
   have I:x*y=a_u (l.take (k+1)):=by
    rw [List.take_add_one,List.getElem?_eq_getElem E,Option.toList_some,g_v,Hx.out,<- M,List.getD_eq_getElem?_getD,List.getElem?_eq_getElem E];rfl
   have R:=HL.out.2 (k+1) (by omega);rw [<- I] at R;obtain ⟨m,U⟩:∃ m,x*y=m:=⟨_,rfl⟩
   rw [U] at R I;have Hn:Hid (m=a_u (l.take (k+1))):=I;clear M E I;go_wp2;go_roundg (n - (k+1))
   case measure=>omega
   case rel=>exact ⟨k+1,m,by omega,rfl,by first|rfl|simp [U],by first|rfl|simp,Hn,rfl⟩
  ·obtain rfl:k=n:=by omega
   go_wp2;go_ret;rw [<- HR.out,Hx.out,List.take_of_length_le (by rw [J.out.1];exact Nat.le_refl _)];exact ⟨rfl,rfl⟩
theorem o_L (v:Value) (l:List Int) (I:k_V l) (w:World) (H:Nums .i64 w v l):
  Calls Tryz.prog 68 #[v] w fun e J=>e = .returned (.bool (decide (4096 < a_u l)))/\J=w:=by
 have E:=d_m v l I w H;obtain ⟨r,D⟩:∃ r:Int,a_u l=r:=⟨_,rfl⟩
 rw [D] at E ⊢;clear D H;go_enter Tryz.func68,Tryz.ntmps68;go_wp2_with fail
 refine E.mono ?_;rintro e L ⟨rfl,rfl⟩;go_wp2;go_ret;exact ⟨rfl,rfl⟩
theorem InOk.smal {d:List Int} (h:InOk d):k_V d:=by
 refine ⟨by rcases h with ⟨x,rfl,h⟩|⟨x,y,rfl,E,D⟩ <;> simp,fun k H=>?_⟩;rcases h with ⟨x,rfl,h⟩|⟨x,y,rfl,E,D⟩
 ·rcases (show k=0∨k=1 by simp at H;omega) with rfl|rfl <;> simp [a_u] <;> omega
 ·have:=a_3 E D;rcases (show k=0∨k=1∨k=2 by simp at H;omega) with rfl|rfl|rfl <;> simp [a_u] <;> omega
theorem m_0 (s:ByteArray) (k:Nat) (D:k < 5) (h:b_K k=s):a_s s=k:=by
 subst h;rcases (show k=0∨k=1∨k=2∨k=3∨k=4 by omega) with rfl|rfl|rfl|rfl|rfl <;> decide +kernel
theorem q_Y (s:ByteArray) (h:∀ k,k < 5->b_K k≠s):a_s s=5:=by
 rcases d_E s with ⟨e,_⟩|⟨e,_⟩|⟨e,_⟩|⟨e,_⟩|⟨e,_⟩|⟨_,e⟩
 ·exact absurd e.symm (h 0 (by omega))
 ·exact absurd e.symm (h 1 (by omega))
 ·exact absurd e.symm (h 2 (by omega))
 ·exact absurd e.symm (h 3 (by omega))
 ·exact absurd e.symm (h 4 (by omega))
 ·exact e
def kArr:Array Value:=#[.string (b_K 0),.int .i64 (h_x 0:Nat),.int .i64 (c_v 0),.int .i64 (d_k 0),.string (b_K 1),.int .i64 (h_x 1:Nat),.int .i64 (c_v 1),.int .i64 (d_k 1),.string (b_K 2),.int .i64 (h_x 2:Nat),.int .i64 (c_v 2),.int .i64 (d_k 2),.string (b_K 3),.int .i64 (h_x 3:Nat),.int .i64 (c_v 3),.int .i64 (d_k 3),.string (b_K 4),.int .i64 (h_x 4:Nat),.int .i64 (c_v 4),.int .i64 (d_k 4)]
theorem o_M {w:World} (h:Kz w):w.rangeAt 0 0 kArr.toList:=by
 intro j v D;have R:j < 20:=(List.getElem?_eq_some_iff.1 D).1;rw [Nat.zero_add];have H:∃ i,i < 5/\(j=i*4∨j=i*4+1∨j=i*4+2∨j=i*4+3):=⟨j / 4,by omega,by omega⟩
 obtain ⟨i,O,E⟩:=H;obtain ⟨I,M,L,J⟩:=h i O;rcases (show i=0∨i=1∨i=2∨i=3∨i=4 by omega) with rfl|rfl|rfl|rfl|rfl <;> rcases E with rfl|rfl|rfl|rfl <;> first|exact I.trans D|exact M.trans D|exact L.trans D|exact J.trans D
theorem p_y {x y:ByteArray} (h:x≠y):(x.toList==y.toList)=false:=(Lib.bytes_beq_false_iff x y).2 h
theorem q_Z (k:Nat) (D:k < 5):∀ W,(Instr.index 174 (.agg kArr) (.int .i64 (k:Int))).run Tryz.prog W = .ok (.agg #[.string (b_K k),.int .i64 (h_x k:Nat),.int .i64 (c_v k),.int .i64 (d_k k)]) W:=by
 intro W;rcases (show k=0∨k=1∨k=2∨k=3∨k=4 by omega) with rfl|rfl|rfl|rfl|rfl <;> kernel_rfl
theorem k_f {W U:World} {b:Nat} {t:TypeId} {R L M O E I H J:Value} (h:W.heap[b]?=some (.cells #[R,L,M,O] t (0,0))) (e:(((W.setCell ⟨b,0,none⟩ E).setCell ⟨b,1,none⟩ I).setCell ⟨b,2,none⟩ H).setCell ⟨b,3,none⟩ J=U):
  U.cell? ⟨b,0,none⟩=some E/\U.cell? ⟨b,1,none⟩=some I/\U.cell? ⟨b,2,none⟩=some H/\U.cell? ⟨b,3,none⟩=some J/\∀ w,Below b w W->Below b w U:=by
 have D:U.heap[b]?=some (.cells #[E,I,H,J] t (0,0)):=by
  rw [<- e,a_n (a_n (a_n (a_n h)))];rfl
 refine ⟨by simp [World.cell?,D],by simp [World.cell?,D],by simp [World.cell?,D],by simp [World.cell?,D],fun w V=>?_⟩;rw [<- e];exact (((V.setCell (Nat.le_refl _) _).setCell (Nat.le_refl _) _).setCell (Nat.le_refl _) _).setCell (Nat.le_refl _) _
theorem k_W (s:ByteArray) (w:World) (hK:Hid (Kz w)):
  Calls Tryz.prog 82 #[.string s] w fun e w'=>e = .returned (.tuple #[.agg #[.string (b_K (a_s s)),.int .i64 (h_x (a_s s)),.int .i64 (c_v (a_s s)),.int .i64 (d_k (a_s s))],.bool (decide (a_s s < 5))])/\Below w.heap.size w w':=by
 obtain ⟨z,I⟩:∃ z,a_s s=z:=⟨_,rfl⟩
 have HZ:Hid (a_s s=z):=I;obtain ⟨zb,eb⟩:∃ zb,decide (z < 5)=zb:=⟨_,rfl⟩
 have O:Hid (decide (z < 5)=zb):=eb;rw [I,eb];clear I eb;go_enter Tryz.func82,Tryz.ntmps82;have hz:=a_g (hK.out 0 (by omega)).1;have ad:(w.alloc (.cells #[.string ⟨#[]⟩,.int .i64 0,.int .i64 0,.int .i64 0] 154)).rangeAt 0 0 kArr.toList:=o_M (Hid.up_kz hK (a_b w _)).out;have ab:Hid ((w.alloc (.cells #[.string ⟨#[]⟩,.int .i64 0,.int .i64 0,.int .i64 0] 154)).rangeAt 0 0 kArr.toList):=ad;clear ad;obtain ⟨KA,M⟩:∃ KA:Array Value,kArr.toList.toArray=KA:=⟨_,rfl⟩
 have HQ:Hid (kArr=KA):=M;go_wp2_with (refine wpList_load_mid rfl 174 (.global 0) rfl _ 0 rfl _ _ ab.out Tryz.underlying174 rfl (by kernel_rfl) ?_;rw [M];clear M)
 generalize L:World.alloc _ _=W0;have ae:Hid (Below w.heap.size w W0):=by rw [<- L];exact a_b w _
 have R:Hid (W0.heap[w.heap.size]?=some (.cells #[.string ⟨#[]⟩,.int .i64 0,.int .i64 0,.int .i64 0] 154 (0,0))/\w.heap.size < W0.heap.size):=by
  show _/\_;rw [<- L];exact ⟨Array.getElem?_push_size,by simp⟩
 clear L ab
 go_loopg [7] 5 (fun gg v wr=>∃ (k:Nat),k<=5/\gg=5 - k/\v = .int .i64 (k:Int)/\Hid (∀ i,i < k->b_K i≠s)/\Hid (Below W0.heap.size W0 wr))
 case atStart=>exact ⟨0,by omega,by omega,rfl,fun i hi=>by omega,Below.refl _ _⟩
 case round=>
  obtain ⟨k,hk,hg,rfl,Hx,HB⟩:=hrel;have H2:=R.out.1;rw [<- HB.out.block _ R.out.2] at H2
  obtain ⟨⟨c0,f0⟩,⟨c1,f1⟩,⟨c2,f2⟩,⟨c3,f3⟩⟩:(wr.cell? ⟨w.heap.size,0,none⟩=some (.string ⟨#[]⟩)/\wr.frozen? ⟨w.heap.size,0,none⟩=false)/\(wr.cell? ⟨w.heap.size,1,none⟩=some (.int .i64 0)/\wr.frozen? ⟨w.heap.size,1,none⟩=false)/\(wr.cell? ⟨w.heap.size,2,none⟩=some (.int .i64 0)/\wr.frozen? ⟨w.heap.size,2,none⟩=false)/\(wr.cell? ⟨w.heap.size,3,none⟩=some (.int .i64 0)/\wr.frozen? ⟨w.heap.size,3,none⟩=false):=by
   simp [World.cell?,World.frozen?,H2]
  have am:=a_g c0;have aa:Hid (Below w.heap.size w wr):=a_c ae.out HB.out;have H3:Hid (wr.heap[w.heap.size]?=some (.cells #[.string ⟨#[]⟩,.int .i64 0,.int .i64 0,.int .i64 0] 154 (0,0))):=H2;clear H2;by_cases h5:k=5
  ·subst h5;have I:=q_Y s fun k hk=>Hx.out k hk;rw [HZ.out] at I;subst I;have J:=O.out;subst J;go_wp2;generalize hU:World.setCell _ _ _=U;obtain ⟨u0,u1,u2,u3,ai⟩:=k_f H3.out hU;exact bodyPost_ret (v:=.tuple #[.agg #[.string ⟨#[]⟩,.int .i64 0,.int .i64 0,.int .i64 0],.bool false]) (by simp [results,Tryz.results82,go_sem,u0,u1,u2,u3]) rfl ⟨rfl,ai w aa.out⟩
  have af:=q_Z k (by omega);rw [HQ.out] at af;have aj:(k:Int) < 5:=by omega
  by_cases hs:b_K k=s
  ·subst hs;have I:=m_0 _ k (by omega) rfl;have ag:k < 5:=by omega
   rw [HZ.out] at I;subst I;have J:true=zb:=(decide_eq_true ag).symm.trans O.out;subst J;clear HZ O;go_wp2;generalize hV:World.setCell _ _ _=V;obtain ⟨u0,u1,u2,u3,ah⟩:=k_f H3.out hV;have ac:=a_g u0;exact bodyPost_ret (v:=.tuple #[.agg #[.string (b_K z),.int .i64 (h_x z:Nat),.int .i64 (c_v z),.int .i64 (d_k z)],.bool true]) (by simp [results,Tryz.results82,go_sem,u0,u1,u2,u3,ac]) rfl ⟨rfl,(ah w aa.out).alloc (Nat.le_of_lt ac) _⟩
  ·have ak:=p_y hs
   have Hn:Hid (∀ i,i < k+1->b_K i≠s):=fun i hi=>by
    rcases Nat.lt_succ_iff_lt_or_eq.1 hi with h|rfl
    ·exact Hx.out i h
    ·exact hs
   go_wp2;go_roundg (5 - (k+1))
   case measure=>omega
   case rel=>exact ⟨k+1,by omega,rfl,by first|rfl|simp,Hn,g_f HB.out _⟩
theorem i_i {d:List Int} (E:d.length≠1) (D:d.length≠2):d_V d=false:=by
 match d with
 | []=>rfl
 | [x]=>simp at E
 | [x,y]=>simp at D
 | x :: y :: z :: r=>rfl
theorem k_g (v t:Int) (q:Bool) (D:decide (1<=v/\v<=t)=q) (w:World):Calls Tryz.prog 81 #[.int .i64 v,.int .i64 t] w fun e E=>e = .returned (.bool q)/\E=w:=by
 rw [<- D];exact e_H v t w
theorem k_X (v:Value) (d:List Int) (w:World) (V:Nums .i64 w v d):
  Calls Tryz.prog 62 #[v] w fun e w'=>e = .returned (.bool (d_V d))/\w'=w:=by
 obtain ⟨p,n,c,rfl,D⟩:=V.lst;obtain ⟨r,M⟩:∃ r:Bool,d_V d=r:=⟨_,rfl⟩
 have I:Hid (d_V d=r):=M;rw [M];clear M V;go_enter Tryz.func62,Tryz.ntmps62;by_cases R:n=1
 ·subst R;obtain ⟨q,o,rfl,L⟩:=D.out.2 0 (by omega)
  obtain ⟨x,rfl⟩:∃ x,d = [x]:=by
   have:=D.out.1
   match d with
   | [x]=>exact ⟨x,rfl⟩
  simp only [List.getD_cons_zero,Nat.add_zero] at L;go_wp2_with fail
  refine (k_g _ _ r I.out _).mono ?_;rintro e U ⟨rfl,rfl⟩;go_wp2;go_ret;exact ⟨rfl,rfl⟩
 have g1:((n:Int)==1)=false:=by simpa using (show (n:Int)≠1 by omega)
 by_cases O:n=2
 ·subst O;obtain ⟨q,o,rfl,L⟩:=D.out.2 0 (by omega);obtain ⟨q',o',e,c1⟩:=D.out.2 1 (by omega);cases e
  obtain ⟨x,y,rfl⟩:∃ x y,d = [x,y]:=by
   have:=D.out.1
   match d with
   | [x,y]=>exact ⟨x,y,rfl⟩
  simp only [List.getD_cons_zero,List.getD_cons_succ,Nat.add_zero] at L c1;go_wp2_with fail
  refine (e_H _ _ _).mono ?_;rintro e U ⟨rfl,rfl⟩;by_cases H:1<=x/\x<=64
  ·rw [decide_eq_true H];go_wp2_with fail
   refine (e_H _ _ _).mono ?_;rintro e U ⟨rfl,rfl⟩;obtain ⟨J,E⟩:∃ J,decide (1<=y/\y<=64)=J:=⟨_,rfl⟩
   have HQ:Hid (decide (1<=y/\y<=64)=J):=E;rw [E];clear E;go_wp2;go_ret;refine ⟨?_,rfl⟩;rw [<- I.out];show _=Ending.returned (Value.bool (decide ((1<=x/\x<=64)/\1<=y/\y<=64)));rw [show decide ((1<=x/\x<=64)/\1<=y/\y<=64)=J by rw [<- HQ.out];exact decide_eq_decide.2 ⟨fun h=>h.2,fun h=>⟨H,h⟩⟩];rfl
  ·rw [decide_eq_false H];have HX:Hid (¬ (1<=x/\x<=64)):=H;clear H;go_wp2;go_ret;refine ⟨?_,rfl⟩;rw [<- I.out];show _=Ending.returned (Value.bool (decide ((1<=x/\x<=64)/\1<=y/\y<=64)));rw [decide_eq_false fun h=>HX.out h.1];rfl
 have g2:((n:Int)==2)=false:=by simpa using (show (n:Int)≠2 by omega)
 go_wp2;go_ret;refine ⟨?_,rfl⟩;rw [<- I.out,i_i (by rw [D.out.1];exact R) (by rw [D.out.1];exact O)];rfl
/-- Is one of a layer's two numbers as its kind asks? -/
def chk (kd:Nat) (a b:Int) (k:Nat):Bool:=if k < h_x kd then decide (1<=(if k=0 then a else b)/\(if k=0 then a else b)<=(if k=0 then c_v kd else d_k kd)) else decide ((if k=0 then a else b)=0)
theorem q_0 (l:Ly):decide (a_R l)=(decide (a_s l.1 < 5) && chk (a_s l.1) l.2.1 l.2.2 0 && chk (a_s l.1) l.2.1 l.2.2 1):=by
 unfold chk;rw [Bool.eq_iff_iff];simp only [decide_eq_true_eq,Bool.and_eq_true,if_true,if_neg (show ¬ (1:Nat)=0 by omega)];unfold a_R
 split <;> split <;> simp [and_assoc]
theorem h_b (s:ByteArray) (a b:Int) (w:World) (hK:Hid (Kz w)):
  Calls Tryz.prog 63 #[.agg #[.string s,.int .i64 a,.int .i64 b]] w fun e w'=>e = .returned (.bool (decide (a_R (s,a,b))))/\Below w.heap.size w w':=by
 obtain ⟨r,er⟩:∃ r:Bool,decide (a_R (s,a,b))=r:=⟨_,rfl⟩
 have HR:Hid ((decide (a_s s < 5) && chk (a_s s) a b 0 && chk (a_s s) a b 1)=r):=(q_0 (s,a,b)).symm.trans er;rw [er];clear er;go_enter Tryz.func63,Tryz.ntmps63;go_wp2_with fail
 generalize ac:World.alloc _ _=W0;have ab:Hid (Below w.heap.size w W0):=by rw [<- ac];exact a_b w _
 have V:Hid (W0.cell? ⟨w.heap.size,1,none⟩=some (.int .i64 a)/\W0.cell? ⟨w.heap.size,2,none⟩=some (.int .i64 b)):=by show _/\_;rw [<- ac];simp [go_sem]
 clear ac;refine (k_W s W0 (Hid.up_kz hK ab.out)).mono ?_;rintro e w1 ⟨rfl,M⟩;obtain ⟨z,ez⟩:∃ z,a_s s=z:=⟨_,rfl⟩
 rw [ez] at HR ⊢;have ag:Hid (Below w.heap.size w w1):=a_c ab.out M;have C1:=a_h M V.out.1;have C2:=a_h M V.out.2;have an:=a_g C1;by_cases h5:z < 5
 case neg=>
  rw [decide_eq_false h5];rw [decide_eq_false h5] at HR;go_wp2;go_ret;rw [<- HR.out];exact ⟨rfl,g_f ag.out _⟩
 rw [decide_eq_true h5];rw [decide_eq_true h5] at HR;obtain ⟨R,af⟩:∃ R,h_x z=R:=⟨_,rfl⟩
 obtain ⟨tA,eA⟩:∃ x,c_v z=x:=⟨_,rfl⟩
 obtain ⟨tB,eB⟩:∃ x,d_k z=x:=⟨_,rfl⟩
 have HZ:Hid (h_x z=R/\c_v z=tA/\d_k z=tB):=⟨af,eA,eB⟩
 rw [af,eA,eB];clear af eA eB ez M;go_wp2_with fail
 generalize aa:World.alloc _ _=W2;have ae:Hid (Below w.heap.size w W2):=by rw [<- aa];exact g_f ag.out _
 obtain ⟨d1,d2,d3,d4⟩:W2.cell? ⟨w1.heap.size,0,none⟩=some (.string (b_K z))/\W2.cell? ⟨w1.heap.size,1,none⟩=some (.int .i64 (R:Int))/\W2.cell? ⟨w1.heap.size,2,none⟩=some (.int .i64 tA)/\W2.cell? ⟨w1.heap.size,3,none⟩=some (.int .i64 tB):=by rw [<- aa];simp [go_sem]
 clear aa C1 C2 V ab d1
 go_loopg [20] 2 (fun gg v wr=>∃ (k:Nat),k<=2/\gg=2 - k/\v = .int .i64 (k:Int)/\Hid (∀ i,i < k->chk z a b i=true)/\wr=W2)
 case atStart=>exact ⟨0,by omega,by omega,rfl,fun i hi=>by omega,rfl⟩
 case round=>
  obtain ⟨k,hk,hg,rfl,Hx,rfl⟩:=hrel;rcases (show k=2∨k=0∨k=1 by omega) with rfl|J
  ·go_wp2;go_ret;rw [<- HR.out,Hx.out 0 (by omega),Hx.out 1 (by omega)];exact ⟨rfl,ae.out⟩
  obtain ⟨x,ex⟩:∃ x,(if k=0 then a else b)=x:=⟨_,rfl⟩
  obtain ⟨t,et⟩:∃ x,(if k=0 then tA else tB)=x:=⟨_,rfl⟩
  have I:Hid (chk z a b k=if k < R then decide (1<=x/\x<=t) else decide (x=0)):=by
   show _=_;unfold chk;rw [HZ.out.1,HZ.out.2.1,HZ.out.2.2,ex,et]
  have am:∀ W,(Instr.index 152 (.agg #[.int .i64 a,.int .i64 b]) (.int .i64 (k:Int))).run Tryz.prog W = .ok (.int .i64 x) W:=by
   intro W;rcases J with rfl|rfl
   ·rw [if_pos rfl] at ex;subst ex;kernel_rfl
   ·rw [if_neg (by omega)] at ex;subst ex;kernel_rfl
  have dk:wr.cell? ⟨w1.heap.size,2+k,none⟩=some (.int .i64 t):=by
   rcases J with rfl|rfl
   ·rw [if_pos rfl] at et;subst et;exact d3
   ·rw [if_neg (by omega)] at et;subst et;exact d4
  have ak:(k:Int) < 2:=by omega
  have H:Hid (chk z a b k=true->∀ i,i < k+1->chk z a b i=true):=fun h i hi=>by
   rcases Nat.lt_succ_iff_lt_or_eq.1 hi with h2|rfl
   ·exact Hx.out i h2
   ·exact h
  have U:Hid (chk z a b k=false->r=false):=fun h=>by
   rw [<- HR.out];rcases J with rfl|rfl <;> simp [h]
  have aj:Hid (k=0∨k=1):=J;clear ex et d3 d4 J HZ;by_cases hc:k < R
  ·have ah:(k:Int) < (R:Int):=by omega
   rw [if_pos hc] at I;go_wp2_with fail
   obtain ⟨qb,ad⟩:∃ qb,decide (1<=x/\x<=t)=qb:=⟨_,rfl⟩
   refine (k_g _ _ qb ad _).mono ?_;rintro e w2 ⟨rfl,rfl⟩;rw [ad] at I;clear ad;cases qb with
   | false=>
    have er:=U.out I.out;subst er;go_wp2;go_ret;exact ⟨rfl,ae.out⟩
   | true=>
    have Hn:=H.out I.out;have HN:Hid (∀ i,i < k+1->chk z a b i=true):=Hn;clear Hn H;go_wp2;go_roundg (2 - (k+1))
    case measure=>omega
    case rel=>exact ⟨k+1,by omega,rfl,by first|rfl|simp,HN,rfl⟩
  ·have ah:(R:Int)<=(k:Int):=by omega
   rw [if_neg hc] at I;by_cases L:x=0
   ·rw [decide_eq_true L] at I;have HN:Hid (∀ i,i < k+1->chk z a b i=true):=H.out I.out;clear H;subst L;go_wp2;go_roundg (2 - (k+1))
    case measure=>omega
    case rel=>exact ⟨k+1,by omega,rfl,by first|rfl|simp,HN,rfl⟩
   ·rw [decide_eq_false L] at I;have er:=U.out I.out;subst er;have ai:(x != 0)=true:=by simpa using L
    go_wp2;go_ret;exact ⟨rfl,ae.out⟩
theorem k_h {ls:List Ly} {f:Ly->Bool} {n:Nat} (H:ls.length=n) (h:∀ i,i < n->f (lyA ls i)=true):ls.all f=true:=by
 rw [List.all_eq_true];intro l D;obtain ⟨i,E,rfl⟩:=List.getElem_of_mem D;have:=h i (by omega);unfold lyA at this;rw [List.getD_eq_getElem?_getD,List.getElem?_eq_getElem E] at this;exact this
theorem m_1 {ls:List Ly} {f:Ly->Bool} {i:Nat} (D:i < ls.length) (h:f (lyA ls i)=false):ls.all f=false:=by
 rw [List.all_eq_false];exact ⟨_,d_W D,by rw [h];simp⟩
theorem f_9 (p p2:Option Addr) (n c D U:Nat) (d:List Int) (ls:List Ly) (ad:D<=1073741824) (w:World) (hK:Hid (Kz w)) (h1:Nums .i64 w (.slice p n c) d) (h2:LyR 0 w p2 D ls):
  Calls Tryz.prog 45 #[.agg #[.slice p n c,.slice p2 D U]] w fun e w'=>e = .returned (.bool (b_L d ls))/\Below w.heap.size w w':=by
 obtain ⟨r,I⟩:∃ r:Bool,b_L d ls=r:=⟨_,rfl⟩
 have HR:Hid (b_L d ls=r):=I;rw [I];clear I;have HL:Hid (LyR 0 w p2 D ls):=h2;clear h2;go_enter Tryz.func45,Tryz.ntmps45;go_wp2_with fail
 generalize L:World.alloc _ _=W0;have J:Hid (Below w.heap.size w W0):=by rw [<- L];exact a_b w _
 have C1:W0.cell? ⟨w.heap.size,1,none⟩=some (.slice p2 D U):=by rw [<- L];simp [go_sem]
 clear L;obtain ⟨qi,H⟩:∃ q,d_V d=q:=⟨_,rfl⟩
 have ci:=k_X _ d W0 (h1.up J.out);rw [H] at ci;refine ci.mono ?_;rintro e w1 ⟨rfl,rfl⟩;cases qi with
 | false=>
  have I:r=false:=by rw [<- HR.out];unfold b_L;rw [H];rfl
  subst I;clear H ci h1;go_wp2;go_ret;exact ⟨rfl,J.out⟩
 | true=>
  have HF:Hid (b_L d ls=ls.all fun l=>decide (a_R l)):=by show _=_;unfold b_L;rw [H];rfl
  clear H ci h1;go_wp2_with fail
  go_loopg [12] D (fun gg v wr=>∃ (k:Nat),k<=D/\gg=D - k/\v = .int .i64 (k:Int)/\Hid (∀ i,i < k->decide (a_R (lyA ls i))=true)/\Hid (Below w.heap.size w wr))
  case atStart=>exact ⟨0,by omega,by omega,rfl,fun i hi=>by omega,J⟩
  case round=>
   obtain ⟨k,hk,hg,rfl,Hx,HB⟩:=hrel;by_cases aa:k < D
   ·have ae:(k:Int) < (D:Int):=by omega
    obtain ⟨q,o,rfl,c0,c1,U⟩:=(HL.out.up HB.out).2 k aa;obtain ⟨l,M⟩:∃ l,lyA ls k=l:=⟨_,rfl⟩
    obtain ⟨s,a,b⟩:=l;rw [M] at c0 c1 U;have ac:=a_g c0;go_wp2_with fail
    generalize R:World.alloc _ _=W2;have V:Hid (Below w.heap.size w W2):=by rw [<- R];exact g_f HB.out _
    clear R;obtain ⟨ql,E⟩:∃ q,decide (a_R (s,a,b))=q:=⟨_,rfl⟩
    have cl:=h_b s a b W2 (Hid.up_kz hK V.out);rw [E] at cl;refine cl.mono ?_;rintro e w3 ⟨rfl,ab⟩;have O:Hid (Below w.heap.size w w3):=a_c V.out ab;clear cl ab c0 c1 U ac;cases ql with
    | false=>
     have I:r=false:=by rw [<- HR.out,HF.out];exact m_1 (i:=k) (by rw [HL.out.1];exact aa) (by rw [M];exact E)
     subst I;clear M E;go_wp2;go_ret;exact ⟨rfl,O.out⟩
    | true=>
     have HN:Hid (∀ i,i < k+1->decide (a_R (lyA ls i))=true):=fun i hi=>by
      rcases Nat.lt_succ_iff_lt_or_eq.1 hi with h2|rfl
      ·exact Hx.out i h2
      ·rw [M];exact E
     clear M E;go_wp2;go_roundg (D - (k+1))
     case measure=>omega
     case rel=>exact ⟨k+1,by omega,rfl,by first|rfl|simp,HN,O⟩
   ·obtain rfl:k=D:=by omega
    have I:r=true:=by rw [<- HR.out,HF.out];exact k_h HL.out.1 Hx.out
    subst I;go_wp2;go_ret;exact ⟨rfl,HB.out⟩
end Go.Proofs.YtcpbhhlepdgdkaaGreatDoor.Wd
