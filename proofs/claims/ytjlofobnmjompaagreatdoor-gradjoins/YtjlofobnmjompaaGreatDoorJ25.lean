/- A row of tensors that a call hands back: how it lies in memory. · The code's At and Value. · The code's give: what a gradient of a node gives for its two. · Losses on a tape that is swept back: its nodes may be, what their Ops give is known. · Nets: what chapter 12 says of shapes and of parameters, over lists. Nothing of the program is named here. -/
import Derived.Test.YtjlofobnmjompaaGreatDoorJ20
import Derived.Test.YtjlofobnmjompaaGreatDoorJ18
import Derived.Test.YtjlofobnmjompaaGreatDoorJ24
import Derived.WalkKit
set_option linter.unusedVariables false
set_option linter.unusedSimpArgs false
set_option maxHeartbeats 16000000
set_option maxRecDepth 16000
namespace Go.Proofs.YtjlofobnmjompaaGreatDoor.Wd
open Go.RowKit Fx
/-- A tensor's two cells. -/
def TwC (W:World) (B:Nat) (t:Ten) (u:List Value):Prop:=∃ s v,u = [s,v]∧OwnK .i64 3 W B s t.1∧OwnK .i64 23 W B v t.2
def TsC (W:World) (B:Nat) (ts:List Ten) (xs:List Value):Prop:=xs.length=ts.length*2∧∀ i t,ts[i]?=some t→TwC W B t ((xs.drop (i*2)).take 2)
/-- A row of tensors of one's own. -/
def OwnTs (W:World) (B:Nat) (v:Value) (ts:List Ten):Prop:=∃ xs,W.ownsRow B 64 2 v ts.length xs∧TsC W B ts xs
theorem TwC.only {S:List TypeId} {W W':World} {B:Nat} {t:Ten} {u:List Value} (h:TwC W B t u) (ho:Only S W W') (h1:3∉S) (h2:23∉S):TwC W' B t u:=by
 obtain ⟨s,v,e,hs,hv⟩:=h
 exact ⟨s,v,e,hs.only ho h1,hv.only ho h2⟩
theorem OwnTs.only {S:List TypeId} {W W':World} {B:Nat} {v:Value} {ts:List Ten} (h:OwnTs W B v ts) (ho:Only S W W') (h1:3∉S) (h2:23∉S) (h3:64∉S):OwnTs W' B v ts:=by
 obtain ⟨xs,hx,hl,hc⟩:=h
 exact ⟨xs,owns_only hx ho h3,hl,fun i t ht=>(hc i t ht).only ho h1 h2⟩
theorem OwnTs.up {W W':World} {B:Nat} {v:Value} {ts:List Ten} (h:OwnTs W B v ts) (hB:Below W.heap.size W W'):OwnTs W' B v ts:=h.only (S:=[]) (Only.of hB) (by simp) (by simp) (by simp)
theorem OwnTs.nil (W:World) (B:Nat):OwnTs W B (.slice none 0 0) []:=⟨[],World.ownsRow_nil _ _ _ _,rfl,fun i t h=>by simp at h⟩
theorem OwnTs.low {W:World} {B B':Nat} {v:Value} {ts:List Ten} (h:OwnTs W B v ts) (hB:B'≤B):OwnTs W B' v ts:=by
 obtain ⟨xs,hx,hl,hc⟩:=h
 refine ⟨xs,⟨hx.1,?_⟩,hl,fun i t ht=>?_⟩
 ·rcases hx.2 with hn|⟨g,cap,cur,hv,hb,rest⟩
  ·exact .inl hn
  ·exact .inr ⟨g,cap,cur,hv,Nat.le_trans hB hb,rest⟩
 ·obtain ⟨s,u,e,hs,hu⟩:=hc i t ht
  exact ⟨s,u,e,hs.low hB,hu.low hB⟩
/-- What a walk reads of it. -/
theorem OwnTs.form {W:World} {B:Nat} {v:Value} {ts:List Ten} (h:OwnTs W B v ts):∃ p c,v = .slice p ts.length c∧ts.length≤c:=by
 obtain ⟨xs,hx,_⟩:=h
 rcases hx.2 with ⟨rfl,h0⟩|⟨g,cap,cur,rfl,_,_,hc,_⟩
 ·exact ⟨none,0,by rw [h0],by omega⟩
 ·exact ⟨_,_,rfl,hc⟩
theorem OwnTs.at {W:World} {B n c:Nat} {p:Option Addr} {ts:List Ten} (h:OwnTs W B (.slice p n c) ts) (i:Nat) (t:Ten) (hi:ts[i]?=some t):
  ∃ q s u,p=some ⟨q,0,none⟩∧W.cell? ⟨q,i*2,none⟩=some s∧W.cell? ⟨q,i*2+1,none⟩=some u∧OwnK .i64 3 W B s t.1∧OwnK .i64 23 W B u t.2:=by
 obtain ⟨xs,hx,hl,hc⟩:=h
 obtain ⟨s,u,e,hs,hu⟩:=hc i t hi
 have hlt:i < ts.length:=(List.getElem?_eq_some_iff.1 hi).1
 have hget:∀ j v,((xs.drop (i*2)).take 2)[j]?=some v→xs[i*2+j]?=some v:=fun j v h=>by
  rw [List.getElem?_take] at h
  split at h
  ·rw [List.getElem?_drop] at h
   exact h
  ·cases h
 rw [e] at hget
 rcases hx.2 with ⟨_,h0⟩|⟨g,cap,cur,hv,hb,hg,rest⟩
 ·omega
 ·cases hv
  have hcell:∀ j v,xs[j]?=some v→W.cell? ⟨g,j,none⟩=some v:=fun j v h=>by
   have:=hx.cells (g:=g) rfl j v h
   rw [addr_plus,Nat.zero_add] at this
   exact this
  exact ⟨g,s,u,rfl,hcell _ _ (hget 0 _ rfl),hcell _ _ (hget 1 _ rfl),hs,hu⟩
theorem below_drew1 {w w1:World} {B:Nat} (h:Below B w w1):Below B w w1.drew:=h.trans ⟨rfl,rfl,rfl,Nat.le_refl _,fun _ _=>rfl⟩
theorem fin22 {w W:World} {B b b':Nat} {s t s' t' s0 t0 s1 t1:Value} {D X D' X':List Int} (h6:Cel W b s0 t0) (h7:Cel W b' s1 t1) (hne:b≠b') (hB:Below w.heap.size w W) (hb:w.heap.size≤b) (hb':w.heap.size≤b') (hbB:b < B) (hbB':b' < B)
  (hs:OwnK .i64 3 W B s D) (ht:OwnK .i64 23 W B t X) (hs':OwnK .i64 3 W B s' D') (ht':OwnK .i64 23 W B t' X'):
  (Cel (set2 (set2 W b s t) b' s' t') b s t∧Cel (set2 (set2 W b s t) b' s' t') b' s' t')∧TRes (set2 (set2 W b s t) b' s' t') w.heap.size (.agg #[s,t]) D X∧TRes (set2 (set2 W b s t) b' s' t') w.heap.size (.agg #[s',t']) D' X'∧Below w.heap.size w (set2 (set2 W b s t) b' s' t'):=by
 have e1:=Stay.set2 (g:=b) W s t
 have e2:=Stay.set2 (g:=b') (set2 W b s t) s' t'
 have q1:∀ {e:TypeId} {v:Value} {l:List Int},OwnK .i64 e W B v l→OwnK .i64 e (set2 (set2 W b s t) b' s' t') w.heap.size v l:=fun h=>((h.stay e1 (h.off hbB)).stay e2 ((h.stay e1 (h.off hbB)).off hbB')).low (by omega)
 exact ⟨⟨(h6.set s t).stay e2 hne,(h7.stay e1 (Ne.symm hne)).set s' t'⟩,⟨_,_,rfl,q1 hs,q1 ht⟩,⟨_,_,rfl,q1 hs',q1 ht'⟩,below_set2 (below_set2 hB b hb s t) b' hb' s' t'⟩
/-- What a return of two tensors leaves. -/
theorem fin22z {w W Z U:World} {B b b':Nat} {s t s' t' s0 t0 s1 t1:Value} {D X D' X':List Int} (hU:set2 (set2 W b s t) b' s' t'=U) (hZ:Below U.heap.size U Z) (h6:Cel W b s0 t0) (h7:Cel W b' s1 t1) (hne:b≠b') (hB:Below w.heap.size w W) (hb:w.heap.size≤b) (hb':w.heap.size≤b') (hbB:b < B) (hbB':b' < B)
  (hs:OwnK .i64 3 W B s D) (ht:OwnK .i64 23 W B t X) (hs':OwnK .i64 3 W B s' D') (ht':OwnK .i64 23 W B t' X'):
  Hid (TRes Z w.heap.size (.agg #[s,t]) D X∧TRes Z w.heap.size (.agg #[s',t']) D' X'∧Below w.heap.size w Z)∧(Z.cell? ⟨b,0,none⟩=some s∧Z.cell? ⟨b,1,none⟩=some t)∧Z.cell? ⟨b',0,none⟩=some s'∧Z.cell? ⟨b',1,none⟩=some t':=by
 obtain ⟨⟨c6,c7⟩,r6,r7,hBz⟩:=fin22 (w:=w) h6 h7 hne hB hb hb' hbB hbB' hs ht hs' ht'
 rw [hU] at c6 c7 r6 r7 hBz
 have d6:=c6.up hZ
 have d7:=c7.up hZ
 exact ⟨⟨r6.up hZ,r7.up hZ,bstep hBz hZ⟩,⟨d6.1,d6.2.1⟩,d7.1,d7.2.1⟩
theorem fall6 {W:World} {b:Nat} {v0 v1 v2 v3 v4 v5 x4 x5:Value} {e:TypeId} (h:W.heap[b]?=some (.cells #[v0,v1,v2,v3,v4,v5] e (0,0))):((W.setCell ⟨b,4,none⟩ x4).setCell ⟨b,5,none⟩ x5).heap[b]?=some (.cells #[v0,v1,v2,v3,x4,x5] e (0,0)):=by
 rw [heap_setat (heap_setat h)]
 rfl
theorem cat_any (B tb:Nat) (ns:List Nd) (hG:NodesG ns) (i:Nat) (nd:Nd) (hi:ns[i]?=some nd) (w:World) (hT:TapC w B tb ns):
  Calls Tryz.prog 47 #[.pointer (some ⟨tb,0,none⟩),.int .i64 (i:Int)] w fun e w'=>∃ s t,e = .returned (.tuple #[.agg #[.int .i64 nd.op,.int .i64 nd.a,.int .i64 nd.b,.int .i64 nd.k,s,t],.bool true])∧OwnK .i64 3 w' w.heap.size s nd.D∧OwnK .i64 23 w' w.heap.size t nd.X∧Below w.heap.size w w':=by
 have hTT:Hid (TapC w B tb ns):=hT
 obtain ⟨pL,cL,xs0,hv,ho,hn0,hnc⟩:=Tap.head hT
 obtain ⟨N,eN⟩:∃ N,ns.length=N:=⟨_,rfl⟩
 rw [eN] at hv ho hnc
 have hcell:=(head_cell hv).1
 have hiN:i < N:=by rw [← eN];exact (List.getElem?_eq_some_iff.1 hi).1
 obtain ⟨q,nd',s_,t_,eq,hnd,c0,c1,c2,c3,c4,c5,hs,ht⟩:=node_cells ho hn0 eN i hiN
 rw [hi] at hnd
 cases hnd
 obtain ⟨pA,nA,cA,rfl⟩:=hs.form_
 obtain ⟨qA,mA,eA,rfl⟩:=ht.form_
 subst eq
 have hq:decide (0≤(i:Int)∧(i:Int) < (ns.length:Int))=true:=decide_eq_true (by omega)
 have HN:Hid (Nums .i64 w (.slice pA nA cA) nd.D∧Nums .i64 w (.slice qA mA eA) nd.X∧isP nd.D nd.X):=⟨hs.nums,ht.nums,(hG nd (nd_mem hi)).1⟩
 have HC:Hid (w.cell? ⟨tb,0,none⟩=some (.slice (some ⟨q,0,none⟩) N cL)∧w.cell? ⟨q,i*6,none⟩=some (.int .i64 nd.op)∧w.cell? ⟨q,i*6+1,none⟩=some (.int .i64 nd.a)∧w.cell? ⟨q,i*6+2,none⟩=some (.int .i64 nd.b)∧w.cell? ⟨q,i*6+3,none⟩=some (.int .i64 nd.k)∧w.cell? ⟨q,i*6+4,none⟩=some (.slice pA nA cA)∧w.cell? ⟨q,i*6+5,none⟩=some (.slice qA mA eA)):=⟨hcell,c0,c1,c2,c3,c4,c5⟩
 have d2:(i:Int) < (N:Int):=by omega
 obtain ⟨op,a,b,k,D,X⟩:=nd
 simp only [] at HC HN ⊢
 clear hT hv ho hn0 hnc hs ht c0 c1 c2 c3 c4 c5 hcell hG hi
 go_enter Tryz.func47,Tryz.ntmps47
 go_wp2_with fail
 generalize hW0:World.alloc _ _=W0
 have HR0:W0.heap[w.heap.size]?=some (.cells #[.int .i64 0,.int .i64 0,.int .i64 0,.int .i64 0,.slice none 0 0,.slice none 0 0] 109 (0,0)):=by rw [← hW0];exact heap_alloc_new _ _
 have HB0:Hid (Below w.heap.size w W0):=by show Below _ _ _;rw [← hW0];exact up_alloc _ _
 clear hW0
 refine (chas_any B tb ns (i:Int) true hq W0 (hTT.out.up HB0.out)).mono ?_
 rintro e w1 ⟨rfl,ew1⟩
 subst ew1
 clear hq
 have c:=cell_low HC.out.1 HB0.out
 have c0:=cell_low HC.out.2.1 HB0.out
 have c1:=cell_low HC.out.2.2.1 HB0.out
 have c2:=cell_low HC.out.2.2.2.1 HB0.out
 have c3:=cell_low HC.out.2.2.2.2.1 HB0.out
 have c4:=cell_low HC.out.2.2.2.2.2.1 HB0.out
 have c5:=cell_low HC.out.2.2.2.2.2.2 HB0.out
 have k0:=cell_lt c
 have k1:=cell_lt c0
 go_wp2_with fail
 generalize hW2:World.alloc _ _=W2
 have HX2:W2.heap[w1.heap.size]?=some (.cells #[.int .i64 op,.int .i64 a,.int .i64 b,.int .i64 k,.slice pA nA cA,.slice qA mA eA] 109 (0,0)):=by rw [← hW2];exact heap_alloc_new _ _
 have HB2:Hid (Below w1.heap.size w1 W2∧Below w.heap.size w W2):=by
  have h:=up_alloc w1 (.cells #[.int .i64 op,.int .i64 a,.int .i64 b,.int .i64 k,.slice pA nA cA,.slice qA mA eA] 109)
  rw [hW2] at h
  exact ⟨h,bstep HB0.out h⟩
 have HR2:W2.heap[w.heap.size]?=some (.cells #[.int .i64 0,.int .i64 0,.int .i64 0,.int .i64 0,.slice none 0 0,.slice none 0 0] 109 (0,0)):=by rw [HB2.out.1.block _ (heap_lt HR0)];exact HR0
 clear hW2 c c0 c1 c2 c3 c4 c5 k0 k1
 refine (ccopied_any pA qA nA cA mA eA D X HN.out.2.2 W2 (HN.out.1.up HB2.out.2) (HN.out.2.1.up HB2.out.2)).mono ?_
 rintro e w3 ⟨v3,rfl,⟨s3,t3,rfl,hs,ht⟩,hB3⟩
 obtain ⟨pa,na,ca,rfl⟩:=hs.form_
 obtain ⟨pb,nb,cb,rfl⟩:=ht.form_
 have HX3:w3.heap[w1.heap.size]?=some (.cells #[.int .i64 op,.int .i64 a,.int .i64 b,.int .i64 k,.slice pA nA cA,.slice qA mA eA] 109 (0,0)):=by rw [hB3.block _ (heap_lt HX2)];exact HX2
 have HR3:w3.heap[w.heap.size]?=some (.cells #[.int .i64 0,.int .i64 0,.int .i64 0,.int .i64 0,.slice none 0 0,.slice none 0 0] 109 (0,0)):=by rw [hB3.block _ (heap_lt HR2)];exact HR2
 have HO:Hid (OwnK .i64 3 w3 w.heap.size (.slice pa na ca) D∧OwnK .i64 23 w3 w.heap.size (.slice pb nb cb) X):=⟨hs.low HB2.out.2.size,ht.low HB2.out.2.size⟩
 have HB3:Hid (Below w.heap.size w w3):=bstep HB2.out.2 hB3
 have hlt:w.heap.size < w1.heap.size:=heap_lt HR0
 clear hs ht hB3 HX2 HR2 HR0 HN HC d2 hTT
 have n1:w1.heap.size≠w.heap.size:=by omega
 have n2:w.heap.size≠w1.heap.size:=by omega
 obtain ⟨⟨x0,x1,x2,x3,x4,x5⟩,xf⟩:=box6 HX3
 obtain ⟨⟨r0,r1,r2,r3,r4,r5⟩,rf⟩:=box6 HR3
 have k1:=heap_lt HX3
 have k2:=heap_lt HR3
 have HX4:Hid ((((w3.setCell ⟨w1.heap.size,4,none⟩ (.slice pa na ca)).setCell ⟨w1.heap.size,5,none⟩ (.slice pb nb cb)).heap[w1.heap.size]?=some (.cells #[.int .i64 op,.int .i64 a,.int .i64 b,.int .i64 k,.slice pa na ca,.slice pb nb cb] 109 (0,0))∧((w3.setCell ⟨w1.heap.size,4,none⟩ (.slice pa na ca)).setCell ⟨w1.heap.size,5,none⟩ (.slice pb nb cb)).heap[w.heap.size]?=some (.cells #[.int .i64 0,.int .i64 0,.int .i64 0,.int .i64 0,.slice none 0 0,.slice none 0 0] 109 (0,0)))∧Below w.heap.size w ((w3.setCell ⟨w1.heap.size,4,none⟩ (.slice pa na ca)).setCell ⟨w1.heap.size,5,none⟩ (.slice pb nb cb))∧Only [109] w3 ((w3.setCell ⟨w1.heap.size,4,none⟩ (.slice pa na ca)).setCell ⟨w1.heap.size,5,none⟩ (.slice pb nb cb))):=by
  refine ⟨⟨fall6 HX3,?_⟩,?_,?_⟩
  ·rw [heap_set _ _ _ _ _ (by omega),heap_set _ _ _ _ _ (by omega)]
   exact HR3
  ·exact (HB3.out.setCell (p:=⟨w1.heap.size,4,none⟩) (Nat.le_of_lt hlt) _).setCell (p:=⟨w1.heap.size,5,none⟩) (Nat.le_of_lt hlt) _
  ·exact (Only.set HX3 (by simp)).trans (Only.set (heap_setat HX3) (by simp))
 go_wp2
 generalize hW9:World.setCell _ _ _=W9
 have h0:=HX4.out.1.2
 have h1:=heap_setat (o:=0) (x:=(.int .i64 op)) h0
 have h2:=heap_setat (o:=1) (x:=(.int .i64 a)) h1
 have h3:=heap_setat (o:=2) (x:=(.int .i64 b)) h2
 have h4:=heap_setat (o:=3) (x:=(.int .i64 k)) h3
 have h5:=heap_setat (o:=4) (x:=(.slice pa na ca)) h4
 have H9:W9.heap[w.heap.size]?=some (.cells #[.int .i64 op,.int .i64 a,.int .i64 b,.int .i64 k,.slice pa na ca,.slice pb nb cb] 109 (0,0)):=by
  rw [← hW9]
  exact (heap_setat h5).trans rfl
 have B9:Below w.heap.size w W9:=by
  rw [← hW9]
  exact ((((((HX4.out.2.1.setCell (p:=⟨w.heap.size,0,none⟩) (Nat.le_refl _) _).setCell (p:=⟨w.heap.size,1,none⟩) (Nat.le_refl _) _).setCell (p:=⟨w.heap.size,2,none⟩) (Nat.le_refl _) _).setCell (p:=⟨w.heap.size,3,none⟩) (Nat.le_refl _) _).setCell (p:=⟨w.heap.size,4,none⟩) (Nat.le_refl _) _).setCell (p:=⟨w.heap.size,5,none⟩) (Nat.le_refl _) _)
 have O9:Only [109] w3 W9:=by
  rw [← hW9]
  exact ((((((HX4.out.2.2.trans (Only.set h0 (by simp))).trans (Only.set h1 (by simp))).trans (Only.set h2 (by simp))).trans (Only.set h3 (by simp))).trans (Only.set h4 (by simp))).trans (Only.set h5 (by simp)))
 obtain ⟨⟨z0,z1,z2,z3,z4,z5⟩,_⟩:=box6 H9
 exact bodyPost_ret (v:=.tuple #[.agg #[.int .i64 op,.int .i64 a,.int .i64 b,.int .i64 k,.slice pa na ca,.slice pb nb cb],.bool true]) (by simp [results,Tryz.results47,go_sem,z0,z1,z2,z3,z4,z5]) rfl ⟨_,_,rfl,HO.out.1.only O9 (by decide),HO.out.2.only O9 (by decide),B9⟩
theorem catno_any (B tb:Nat) (ns:List Nd) (i:Int) (hi:i < 0∨(ns.length:Int)≤i) (w:World) (hT:TapC w B tb ns):
  Calls Tryz.prog 47 #[.pointer (some ⟨tb,0,none⟩),.int .i64 i] w fun e w'=>e = .returned (.tuple #[.agg #[.int .i64 0,.int .i64 0,.int .i64 0,.int .i64 0,.slice none 0 0,.slice none 0 0],.bool false])∧Below w.heap.size w w':=by
 have hTT:Hid (TapC w B tb ns):=hT
 have hq:decide (0≤i∧i < (ns.length:Int))=false:=decide_eq_false (by omega)
 clear hT hi
 go_enter Tryz.func47,Tryz.ntmps47
 go_wp2_with fail
 generalize hW0:World.alloc _ _=W0
 have h0:W0.heap[w.heap.size]?=some (.cells #[.int .i64 0,.int .i64 0,.int .i64 0,.int .i64 0,.slice none 0 0,.slice none 0 0] 109 (0,0)):=by rw [← hW0];exact heap_alloc_new _ _
 have HB0:Hid (Below w.heap.size w W0):=by show Below _ _ _;rw [← hW0];exact up_alloc _ _
 clear hW0
 refine (chas_any B tb ns i false hq W0 (hTT.out.up HB0.out)).mono ?_
 rintro e w1 ⟨rfl,ew1⟩
 subst ew1
 clear hq
 obtain ⟨⟨r0,r1,r2,r3,r4,r5⟩,rf⟩:=box6 h0
 have k2:=heap_lt h0
 go_wp2
 generalize hW9:World.setCell _ _ _=W9
 have h1:=heap_setat (o:=0) (x:=(.int .i64 0)) h0
 have h2:=heap_setat (o:=1) (x:=(.int .i64 0)) h1
 have h3:=heap_setat (o:=2) (x:=(.int .i64 0)) h2
 have h4:=heap_setat (o:=3) (x:=(.int .i64 0)) h3
 have h5:=heap_setat (o:=4) (x:=(.slice none 0 0)) h4
 have H9:W9.heap[w.heap.size]?=some (.cells #[.int .i64 0,.int .i64 0,.int .i64 0,.int .i64 0,.slice none 0 0,.slice none 0 0] 109 (0,0)):=by
  rw [← hW9]
  exact (heap_setat h5).trans rfl
 have B9:Below w.heap.size w W9:=by
  rw [← hW9]
  exact ((((((HB0.out.setCell (p:=⟨w.heap.size,0,none⟩) (Nat.le_refl _) _).setCell (p:=⟨w.heap.size,1,none⟩) (Nat.le_refl _) _).setCell (p:=⟨w.heap.size,2,none⟩) (Nat.le_refl _) _).setCell (p:=⟨w.heap.size,3,none⟩) (Nat.le_refl _) _).setCell (p:=⟨w.heap.size,4,none⟩) (Nat.le_refl _) _).setCell (p:=⟨w.heap.size,5,none⟩) (Nat.le_refl _) _)
 obtain ⟨⟨z0,z1,z2,z3,z4,z5⟩,_⟩:=box6 H9
 exact bodyPost_ret (v:=.tuple #[.agg #[.int .i64 0,.int .i64 0,.int .i64 0,.int .i64 0,.slice none 0 0,.slice none 0 0],.bool false]) (by simp [results,Tryz.results47,go_sem,z0,z1,z2,z3,z4,z5]) rfl ⟨rfl,B9⟩
theorem cvalue_any (B tb:Nat) (ns:List Nd) (hG:NodesG ns) (i:Nat) (nd:Nd) (hi:ns[i]?=some nd) (w:World) (hT:TapC w B tb ns):
  Calls Tryz.prog 25 #[.pointer (some ⟨tb,0,none⟩),.int .i64 (i:Int)] w fun e w'=>∃ v,e = .returned (.tuple #[v,.bool true])∧TRes w' w.heap.size v nd.D nd.X∧Below w.heap.size w w':=by
 have HAT:Hid (∀ W,Below w.heap.size w W→Calls Tryz.prog 47 #[.pointer (some ⟨tb,0,none⟩),.int .i64 (i:Int)] W fun e w'=>∃ s t,e = .returned (.tuple #[.agg #[.int .i64 nd.op,.int .i64 nd.a,.int .i64 nd.b,.int .i64 nd.k,s,t],.bool true])∧OwnK .i64 3 w' W.heap.size s nd.D∧OwnK .i64 23 w' W.heap.size t nd.X∧Below W.heap.size W w'):=fun W hW=>cat_any B tb ns hG i nd hi W (hT.up hW)
 obtain ⟨op,a,b,k,D,X⟩:=nd
 simp only [] at HAT ⊢
 clear hT hi hG
 go_enter Tryz.func25,Tryz.ntmps25
 go_wp2_with fail
 generalize hW0:World.alloc _ _=W0
 have HB0:Hid (Below w.heap.size w W0):=by show Below _ _ _;rw [← hW0];exact up_alloc _ _
 have XR:Hid (Cel W0 w.heap.size (.slice none 0 0) (.slice none 0 0)):=celW hW0 (by simp [go_sem])
 clear hW0
 refine (HAT.out W0 HB0.out).mono ?_
 rintro e w1 ⟨s,t,rfl,hs,ht,hB1⟩
 obtain ⟨pa,na,ca,rfl⟩:=hs.form_
 obtain ⟨pb,nb,cb,rfl⟩:=ht.form_
 have HF:Hid (TRes (set2 w1 w.heap.size (.slice pa na ca) (.slice pb nb cb)) w.heap.size (.agg #[.slice pa na ca,.slice pb nb cb]) D X∧Below w.heap.size w (set2 w1 w.heap.size (.slice pa na ca) (.slice pb nb cb))):=⟨(TRes.set hs ht (cell_lt XR.out.1)).low HB0.out.size,below_cell (bstep HB0.out hB1) _ (Nat.le_refl _) _ _⟩
 clear hs ht HAT
 have xr:=XR.out.up hB1
 have cf:=xr.set (.slice pa na ca) (.slice pb nb cb)
 obtain ⟨r0,r1,r2,r3⟩:=xr
 have kq:=cell_lt r0
 have z0:=cell_low cf.1 (up_alloc _ (.cells #[.int .i64 op,.int .i64 a,.int .i64 b,.int .i64 k,.slice pa na ca,.slice pb nb cb] 109))
 have z1:=cell_low cf.2.1 (up_alloc _ (.cells #[.int .i64 op,.int .i64 a,.int .i64 b,.int .i64 k,.slice pa na ca,.slice pb nb cb] 109))
 clear cf
 go_wp2
 exact bodyPost_ret (v:=.tuple #[.agg #[.slice pa na ca,.slice pb nb cb],.bool true]) (by simp [results,Tryz.results25,go_sem,z0,z1]) rfl ⟨_,rfl,HF.out.1.up (up_alloc _ _),bstep HF.out.2 (up_alloc _ _)⟩
theorem cvno_any (B tb:Nat) (ns:List Nd) (i:Int) (hi:i < 0∨(ns.length:Int)≤i) (w:World) (hT:TapC w B tb ns):
  Calls Tryz.prog 25 #[.pointer (some ⟨tb,0,none⟩),.int .i64 i] w fun e w'=>e = .returned (.tuple #[.agg #[.slice none 0 0,.slice none 0 0],.bool false])∧Below w.heap.size w w':=by
 have HAT:Hid (∀ W,Below w.heap.size w W→Calls Tryz.prog 47 #[.pointer (some ⟨tb,0,none⟩),.int .i64 i] W fun e w'=>e = .returned (.tuple #[.agg #[.int .i64 0,.int .i64 0,.int .i64 0,.int .i64 0,.slice none 0 0,.slice none 0 0],.bool false])∧Below W.heap.size W w'):=fun W hW=>catno_any B tb ns i hi W (hT.up hW)
 clear hT hi
 go_enter Tryz.func25,Tryz.ntmps25
 go_wp2_with fail
 generalize hW0:World.alloc _ _=W0
 have HB0:Hid (Below w.heap.size w W0):=by show Below _ _ _;rw [← hW0];exact up_alloc _ _
 have XR:Hid (Cel W0 w.heap.size (.slice none 0 0) (.slice none 0 0)):=celW hW0 (by simp [go_sem])
 clear hW0
 refine (HAT.out W0 HB0.out).mono ?_
 rintro e w1 ⟨rfl,hB1⟩
 have HF:Hid (Below w.heap.size w (set2 w1 w.heap.size (.slice none 0 0) (.slice none 0 0))):=below_cell (bstep HB0.out hB1) _ (Nat.le_refl _) _ _
 clear HAT
 have xr:=XR.out.up hB1
 have cf:=xr.set (.slice none 0 0) (.slice none 0 0)
 obtain ⟨r0,r1,r2,r3⟩:=xr
 have kq:=cell_lt r0
 have z0:=cell_low cf.1 (up_alloc _ (.cells #[.int .i64 0,.int .i64 0,.int .i64 0,.int .i64 0,.slice none 0 0,.slice none 0 0] 109))
 have z1:=cell_low cf.2.1 (up_alloc _ (.cells #[.int .i64 0,.int .i64 0,.int .i64 0,.int .i64 0,.slice none 0 0,.slice none 0 0] 109))
 clear cf
 go_wp2
 exact bodyPost_ret (v:=.tuple #[.agg #[.slice none 0 0,.slice none 0 0],.bool false]) (by simp [results,Tryz.results25,go_sem,z0,z1]) rfl ⟨rfl,bstep HF.out (up_alloc _ _)⟩
/-- What giveA and giveB tell at an Op, if it is one. -/
def GvC (op:Int):Prop:=(2≤op∧op≤14→GvP 88 onA op)∧(twoP op→GvP 89 onB op)
theorem GvC.leaf:GvC 1:=⟨fun h=>absurd h (by omega),fun h=>absurd h (by decide)⟩
/-- Every node's own number is Go's; what its Op gives is known. -/
def NodesK (ns:List Nd):Prop:=∀ nd,nd∈ns→InR nd.k∧GvC nd.op
theorem NodesK.of {ns:List Nd} (h:(ns.all fun nd=>decide (-9223372036854775808≤nd.k) && decide (nd.k≤9223372036854775807))=true) (hc:∀ nd,nd∈ns→GvC nd.op):NodesK ns:=fun nd hm=>by
 have:=List.all_eq_true.1 h nd hm
 simp only [Bool.and_eq_true,decide_eq_true_eq] at this
 refine ⟨?_,hc nd hm⟩
 unfold InR
 omega
theorem NodesK.nil:NodesK []:=fun nd h=>by simp at h
theorem NodesK.leaf {ns:List Nd} {d x:List Int} (h:NodesK ns):NodesK (leafN ns d x):=by
 unfold leafN
 split
 ·intro nd hm
  rcases List.mem_append.1 hm with h1|h1
  ·exact h nd h1
  ·simp at h1
   subst h1
   refine ⟨?_,GvC.leaf⟩
   show InR 0
   unfold InR
   omega
 ·exact h
theorem NodesK.do {ns:List Nd} {op a b k:Int} (h:NodesK ns) (hk:InR k) (hc:GvC op):NodesK (doN ns op a b k):=by
 unfold doN
 split
 ·intro nd hm
  rcases List.mem_append.1 hm with h1|h1
  ·exact h nd h1
  ·simp at h1
   subst h1
   refine ⟨?_,hc⟩
   show InR (dK op k)
   unfold dK
   split
   ·exact hk
   ·unfold InR
    omega
 ·exact h
theorem onA_one (k:Int) (a b g:Ten):onA 1 k a b g=([],[]):=by simp [onA]
theorem onB_no {op:Int} (h:¬ twoP op) (k:Int) (a b g:Ten):onB op k a b g=([],[]):=by
 have h2:op≠2:=fun e=>h (.inl e)
 have h3:op≠3:=fun e=>h (.inr (.inl e))
 have h4:op≠4:=fun e=>h (.inr (.inr (.inl e)))
 have h6:op≠6:=fun e=>h (.inr (.inr (.inr (.inl e))))
 have h12:op≠12:=fun e=>h (.inr (.inr (.inr (.inr e))))
 simp [onB,h2,h3,h4,h6,h12]
/-- What Value tells of any number. -/
theorem cval_any (B tb:Nat) (ns:List Nd) (hG:NodesG ns) (i:Int) (w:World) (hT:TapC w B tb ns):
  Calls Tryz.prog 25 #[.pointer (some ⟨tb,0,none⟩),.int .i64 i] w fun e w'=>∃ v q,e = .returned (.tuple #[v,.bool q])∧TRes w' w.heap.size v (if 0≤i∧i < (ns.length:Int) then (ndN ns i).D else []) (if 0≤i∧i < (ns.length:Int) then (ndN ns i).X else [])∧Below w.heap.size w w':=by
 by_cases h:0≤i∧i < (ns.length:Int)
 ·obtain ⟨j,rfl⟩:∃ j:Nat,i=(j:Int):=⟨i.toNat,by omega⟩
  rw [if_pos h,if_pos h]
  refine (cvalue_any B tb ns hG j _ (ndN_get (by omega)) w hT).mono ?_
  rintro e w' ⟨v,rfl,h1,h2⟩
  exact ⟨v,true,rfl,h1,h2⟩
 ·rw [if_neg h,if_neg h]
  refine (cvno_any B tb ns i (by omega) w hT).mono ?_
  rintro e w' ⟨rfl,h2⟩
  exact ⟨_,false,rfl,TRes.none _ _,h2⟩
theorem cgive_any (B tb:Nat) (ns:List Nd) (hG:NodesG ns) (hV:NodesV ns) (hNK:NodesK ns) (i:Nat) (op a b k:Int) (D X:List Int) (hi:ns[i]?=some ⟨op,a,b,k,D,X⟩) (ps pt p p2:Option Addr) (ns_ cs nt ct n c n2 c2:Nat) (g:Ten) (hg:TenG g) (eg:g.1=D) (hc2:n2≤c2) (w:World) (hT:TapC w B tb ns) (hTz:Hid (Tz w)) (h1:Nums .i64 w (.slice p n c) g.1) (h2:Nums .i64 w (.slice p2 n2 c2) g.2):
  Calls Tryz.prog 68 #[.pointer (some ⟨tb,0,none⟩),.agg #[.int .i64 op,.int .i64 a,.int .i64 b,.int .i64 k,.slice ps ns_ cs,.slice pt nt ct],.agg #[.slice p n c,.slice p2 n2 c2]] w fun e w'=>∃ u v,e = .returned (.tuple #[u,v,.int .i64 0])∧TRes w' w.heap.size u (onA op k (aOf ns ⟨op,a,b,k,D,X⟩) (bOf ns ⟨op,a,b,k,D,X⟩) g).1 (onA op k (aOf ns ⟨op,a,b,k,D,X⟩) (bOf ns ⟨op,a,b,k,D,X⟩) g).2∧TRes w' w.heap.size v (onB op k (aOf ns ⟨op,a,b,k,D,X⟩) (bOf ns ⟨op,a,b,k,D,X⟩) g).1 (onB op k (aOf ns ⟨op,a,b,k,D,X⟩) (bOf ns ⟨op,a,b,k,D,X⟩) g).2∧Below w.heap.size w w':=by
 have hkk:InR k:=(hNK _ (nd_mem hi)).1
 have hgc:GvC op:=(hNK _ (nd_mem hi)).2
 obtain ⟨RA,eRA⟩:∃ R,onA op k (aOf ns ⟨op,a,b,k,D,X⟩) (bOf ns ⟨op,a,b,k,D,X⟩) g=R:=⟨_,rfl⟩
 obtain ⟨RB,eRB⟩:∃ R,onB op k (aOf ns ⟨op,a,b,k,D,X⟩) (bOf ns ⟨op,a,b,k,D,X⟩) g=R:=⟨_,rfl⟩
 have hil:i < ns.length:=(List.getElem?_eq_some_iff.1 hi).1
 obtain ⟨ta,tb_,cva,cvb,cga,cgb⟩:∃ ta tb_:Ten,
   Hid (∀ W,Below w.heap.size w W→Calls Tryz.prog 25 #[.pointer (some ⟨tb,0,none⟩),.int .i64 a] W fun e w'=>∃ v q,e = .returned (.tuple #[v,.bool q])∧TRes w' W.heap.size v ta.1 ta.2∧Below W.heap.size W w')
   ∧ Hid (∀ W,Below w.heap.size w W→Calls Tryz.prog 25 #[.pointer (some ⟨tb,0,none⟩),.int .i64 b] W fun e w'=>∃ v q,e = .returned (.tuple #[v,.bool q])∧TRes w' W.heap.size v tb_.1 tb_.2∧Below W.heap.size W w')
   ∧ Hid (∀ W p3 p4 p5 p6 n3 c3 n4 c4 n5 c5 n6 c6,Below w.heap.size w W→Nums .i64 W (.slice p3 n3 c3) ta.1→Nums .i64 W (.slice p4 n4 c4) ta.2→Nums .i64 W (.slice p5 n5 c5) tb_.1→Nums .i64 W (.slice p6 n6 c6) tb_.2→n4≤c4→n6≤c6→Calls Tryz.prog 88 #[.agg #[.int .i64 op,.int .i64 a,.int .i64 b,.int .i64 k,.slice ps ns_ cs,.slice pt nt ct],.agg #[.slice p3 n3 c3,.slice p4 n4 c4],.agg #[.slice p5 n5 c5,.slice p6 n6 c6],.agg #[.slice p n c,.slice p2 n2 c2]] W fun e w'=>∃ v',e = .returned (.tuple #[v',.int .i64 0])∧TRes w' W.heap.size v' RA.1 RA.2∧Below W.heap.size W w')
   ∧ Hid (∀ W p3 p4 p5 p6 n3 c3 n4 c4 n5 c5 n6 c6,Below w.heap.size w W→Nums .i64 W (.slice p3 n3 c3) ta.1→Nums .i64 W (.slice p4 n4 c4) ta.2→Nums .i64 W (.slice p5 n5 c5) tb_.1→Nums .i64 W (.slice p6 n6 c6) tb_.2→n4≤c4→n6≤c6→Calls Tryz.prog 89 #[.agg #[.int .i64 op,.int .i64 a,.int .i64 b,.int .i64 k,.slice ps ns_ cs,.slice pt nt ct],.agg #[.slice p3 n3 c3,.slice p4 n4 c4],.agg #[.slice p5 n5 c5,.slice p6 n6 c6],.agg #[.slice p n c,.slice p2 n2 c2]] W fun e w'=>∃ v',e = .returned (.tuple #[v',.int .i64 0])∧TRes w' W.heap.size v' RB.1 RB.2∧Below W.heap.size W w'):=by
  have cv:=fun (j:Int) W (hW:Below w.heap.size w W)=>cval_any B tb ns hG j W (hT.up hW)
  by_cases h1':op=1
  ·subst h1'
   rw [onA_one] at eRA
   rw [onB_no (by decide)] at eRB
   subst eRA eRB
   exact ⟨((if 0≤a∧a < (ns.length:Int) then (ndN ns a).D else []),(if 0≤a∧a < (ns.length:Int) then (ndN ns a).X else [])),((if 0≤b∧b < (ns.length:Int) then (ndN ns b).D else []),(if 0≤b∧b < (ns.length:Int) then (ndN ns b).X else [])),fun W hW=>cv a W hW,fun W hW=>cv b W hW,fun W p3 p4 p5 p6 n3 c3 n4 c4 n5 c5 n6 c6 hW _ _ _ _ _ _=>ga_none 1 (by decide) ps pt p3 p4 p5 p6 p p2 ns_ cs nt ct n3 c3 n4 c4 n5 c5 n6 c6 n c n2 c2 a b k W,fun W p3 p4 p5 p6 n3 c3 n4 c4 n5 c5 n6 c6 hW _ _ _ _ _ _=>gb_none 1 (by decide) ps pt p3 p4 p5 p6 p p2 ns_ cs nt ct n3 c3 n4 c4 n5 c5 n6 c6 n c n2 c2 a b k W⟩
  ·obtain ⟨ok,ho,ha,hb,hb'⟩:=OkP.of hG hV hi h1' hg eg
   simp only [] at ok ho ha hb hb'
   have hva:=cv a
   rw [if_pos ⟨ha.1,by omega⟩,if_pos ⟨ha.1,by omega⟩] at hva
   have hvb:=cv b
   have eb:(if 0≤b∧b < (ns.length:Int) then (ndN ns b).D else [])=(bOf ns ⟨op,a,b,k,D,X⟩).1∧(if 0≤b∧b < (ns.length:Int) then (ndN ns b).X else [])=(bOf ns ⟨op,a,b,k,D,X⟩).2:=by
    show _=dD ns op b∧_=dX ns op b
    unfold dD dX
    by_cases ht:twoP op
    ·have:=hb ht
     rw [if_pos ht,if_pos ht,if_pos ⟨this.1,by omega⟩,if_pos ⟨this.1,by omega⟩]
     exact ⟨rfl,rfl⟩
    ·have:=hb' ht
     rw [if_neg ht,if_neg ht,if_neg (by omega),if_neg (by omega)]
     exact ⟨rfl,rfl⟩
   rw [eb.1,eb.2] at hvb
   refine ⟨aOf ns ⟨op,a,b,k,D,X⟩,bOf ns ⟨op,a,b,k,D,X⟩,hva,hvb,fun W p3 p4 p5 p6 n3 c3 n4 c4 n5 c5 n6 c6 hW u1 u2 u3 u4 u5 u6=>?_,fun W p3 p4 p5 p6 n3 c3 n4 c4 n5 c5 n6 c6 hW u1 u2 u3 u4 u5 u6=>?_⟩
   ·rw [← eRA]
    exact hgc.1 ho ps pt p3 p4 p5 p6 p p2 ns_ cs nt ct n3 c3 n4 c4 n5 c5 n6 c6 n c n2 c2 a b k _ _ g hkk ok u5 u6 hc2 W (Hid.up_tz hTz hW) u1 u2 u3 u4 (h1.up hW) (h2.up hW)
   ·rw [← eRB]
    by_cases ht:twoP op
    ·exact hgc.2 ht ps pt p3 p4 p5 p6 p p2 ns_ cs nt ct n3 c3 n4 c4 n5 c5 n6 c6 n c n2 c2 a b k _ _ g hkk ok u5 u6 hc2 W (Hid.up_tz hTz hW) u1 u2 u3 u4 (h1.up hW) (h2.up hW)
    ·rw [onB_no ht]
     exact gb_none op ht ps pt p3 p4 p5 p6 p p2 ns_ cs nt ct n3 c3 n4 c4 n5 c5 n6 c6 n c n2 c2 a b k W
 rw [eRA,eRB]
 clear eRA eRB hkk hgc hil hG hV hNK hi hg eg hc2 hT hTz h1 h2
 go_enter Tryz.func68,Tryz.ntmps68
 go_wp2_with fail
 generalize hW0:World.alloc _ _=W0
 have HB0:=hidB (w:=w) hW0 (by go_grown)
 have XN:Hid (W0.heap[w.heap.size]?=some (.cells #[.int .i64 op,.int .i64 a,.int .i64 b,.int .i64 k,.slice ps ns_ cs,.slice pt nt ct] 109 (0,0))):=by
  show _=_
  rw [← hW0]
  exact ((up_alloc _ _).block _ (by simp;try omega)).trans (((up_alloc _ _).block _ (by simp;try omega)).trans (((up_alloc _ _).block _ (by simp;try omega)).trans (heap_alloc_new _ _)))
 have XG:Hid (Cel W0 (w.heap.size+1) (.slice p n c) (.slice p2 n2 c2)):=celW hW0 (by simp [go_sem])
 have X6:Hid (Cel W0 (w.heap.size+2) (.slice none 0 0) (.slice none 0 0)):=celW hW0 (by simp [go_sem])
 have X7:Hid (Cel W0 (w.heap.size+3) (.slice none 0 0) (.slice none 0 0)):=celW hW0 (by simp [go_sem])
 clear hW0
 refine (cva.out W0 HB0.out).mono ?_
 rintro e w1 ⟨v1,q1,rfl,⟨s1,t1,rfl,hs1,ht1⟩,hB1⟩
 obtain ⟨p3,n3,c3,rfl⟩:=hs1.form_
 obtain ⟨p4,n4,c4,rfl⟩:=ht1.form_
 have HB1:=hid2 (bstep HB0.out hB1) hB1
 have HN1:Hid (Nums .i64 w1 (.slice p3 n3 c3) ta.1∧Nums .i64 w1 (.slice p4 n4 c4) ta.2∧n4≤c4):=⟨hs1.nums,ht1.nums,ht1.cap⟩
 have HX1:w1.heap[w.heap.size]?=some (.cells #[.int .i64 op,.int .i64 a,.int .i64 b,.int .i64 k,.slice ps ns_ cs,.slice pt nt ct] 109 (0,0)):=(hB1.block _ (heap_lt XN.out)).trans XN.out
 obtain ⟨⟨k0,k1,k2,k3,k4,k5⟩,_⟩:=box6 HX1
 have kz:=heap_lt HX1
 clear hs1 ht1 hB1 cva
 go_wp2_with fail
 generalize hW2:World.alloc _ _=W2
 have B2:Below w1.heap.size w1 W2:=by rw [← hW2];exact up_alloc _ _
 have XA2:Hid (Cel W2 w1.heap.size (.slice p3 n3 c3) (.slice p4 n4 c4)):=celW hW2 (by simp [go_sem])
 have HB2:=hid2 (bstep HB1.out.1 B2) (bstep HB1.out.2 B2)
 have HN2:Hid (Nums .i64 W2 (.slice p3 n3 c3) ta.1∧Nums .i64 W2 (.slice p4 n4 c4) ta.2∧n4≤c4):=⟨HN1.out.1.up B2,HN1.out.2.1.up B2,HN1.out.2.2⟩
 clear hW2 B2 HB1 HN1 HX1 k0 k1 k2 k3 k4 k5 kz
 refine (cvb.out W2 HB2.out.1).mono ?_
 rintro e w3 ⟨v3,q3,rfl,⟨s3,t3,rfl,hs3,ht3⟩,hB3⟩
 obtain ⟨p5,n5,c5,rfl⟩:=hs3.form_
 obtain ⟨p6,n6,c6,rfl⟩:=ht3.form_
 have HB3:=hid2 (bstep HB2.out.1 hB3) (bstep HB2.out.2 hB3)
 have HN3:Hid ((Nums .i64 w3 (.slice p3 n3 c3) ta.1∧Nums .i64 w3 (.slice p4 n4 c4) ta.2∧n4≤c4)∧Nums .i64 w3 (.slice p5 n5 c5) tb_.1∧Nums .i64 w3 (.slice p6 n6 c6) tb_.2∧n6≤c6):=⟨⟨HN2.out.1.up hB3,HN2.out.2.1.up hB3,HN2.out.2.2⟩,hs3.nums,ht3.nums,ht3.cap⟩
 have HX3:w3.heap[w.heap.size]?=some (.cells #[.int .i64 op,.int .i64 a,.int .i64 b,.int .i64 k,.slice ps ns_ cs,.slice pt nt ct] 109 (0,0)):=(HB3.out.2.block _ (heap_lt XN.out)).trans XN.out
 have XA3:Hid (Cel w3 w1.heap.size (.slice p3 n3 c3) (.slice p4 n4 c4)):=XA2.out.up hB3
 obtain ⟨⟨k0,k1,k2,k3,k4,k5⟩,_⟩:=box6 HX3
 have kz:=heap_lt HX3
 obtain ⟨xa0,xa1,_,_⟩:=XA3.out
 have ka:=cell_lt xa0
 obtain ⟨xg0,xg1,_,_⟩:=XG.out.up HB3.out.2
 have kg:=cell_lt xg0
 clear hs3 ht3 hB3 cvb HB2 HN2 XA2
 go_wp2_with fail
 generalize hW4:World.alloc _ _=W4
 have B4:Below w3.heap.size w3 W4:=by rw [← hW4];exact up_alloc _ _
 have XB4:Hid (Cel W4 w3.heap.size (.slice p5 n5 c5) (.slice p6 n6 c6)):=celW hW4 (by simp [go_sem])
 have XA4:Hid (Cel W4 w1.heap.size (.slice p3 n3 c3) (.slice p4 n4 c4)):=XA3.out.up B4
 have HB4:=hid2 (bstep HB3.out.1 B4) (bstep HB3.out.2 B4)
 have HN4:Hid ((Nums .i64 W4 (.slice p3 n3 c3) ta.1∧Nums .i64 W4 (.slice p4 n4 c4) ta.2∧n4≤c4)∧Nums .i64 W4 (.slice p5 n5 c5) tb_.1∧Nums .i64 W4 (.slice p6 n6 c6) tb_.2∧n6≤c6):=⟨⟨HN3.out.1.1.up B4,HN3.out.1.2.1.up B4,HN3.out.1.2.2⟩,HN3.out.2.1.up B4,HN3.out.2.2.1.up B4,HN3.out.2.2.2⟩
 clear hW4 B4 HB3 HN3 HX3 k0 k1 k2 k3 k4 k5 kz xa0 xa1 ka xg0 xg1 kg XA3
 refine (cga.out W4 _ _ _ _ _ _ _ _ _ _ _ _ HB4.out.1 HN4.out.1.1 HN4.out.1.2.1 HN4.out.2.1 HN4.out.2.2.1 HN4.out.1.2.2 HN4.out.2.2.2).mono ?_
 rintro e w5 ⟨v5,rfl,⟨s5,t5,rfl,hs5,ht5⟩,hB5⟩
 obtain ⟨pa,na,ca,rfl⟩:=hs5.form_
 obtain ⟨pb,nb,cb,rfl⟩:=ht5.form_
 have HB5:=hid2 (bstep HB4.out.1 hB5) (bstep HB4.out.2 hB5)
 have HN5:Hid ((Nums .i64 w5 (.slice p3 n3 c3) ta.1∧Nums .i64 w5 (.slice p4 n4 c4) ta.2∧n4≤c4)∧Nums .i64 w5 (.slice p5 n5 c5) tb_.1∧Nums .i64 w5 (.slice p6 n6 c6) tb_.2∧n6≤c6):=⟨⟨HN4.out.1.1.up hB5,HN4.out.1.2.1.up hB5,HN4.out.1.2.2⟩,HN4.out.2.1.up hB5,HN4.out.2.2.1.up hB5,HN4.out.2.2.2⟩
 have HR5:Hid (OwnK .i64 3 w5 W0.heap.size (.slice pa na ca) RA.1∧OwnK .i64 23 w5 W0.heap.size (.slice pb nb cb) RA.2):=⟨hs5.low HB4.out.2.size,ht5.low HB4.out.2.size⟩
 have HX5:w5.heap[w.heap.size]?=some (.cells #[.int .i64 op,.int .i64 a,.int .i64 b,.int .i64 k,.slice ps ns_ cs,.slice pt nt ct] 109 (0,0)):=(HB5.out.2.block _ (heap_lt XN.out)).trans XN.out
 obtain ⟨⟨k0,k1,k2,k3,k4,k5⟩,_⟩:=box6 HX5
 have kz:=heap_lt HX5
 obtain ⟨xa0,xa1,_,_⟩:=XA4.out.up hB5
 have ka:=cell_lt xa0
 obtain ⟨xb0,xb1,_,_⟩:=XB4.out.up hB5
 have kb:=cell_lt xb0
 obtain ⟨xg0,xg1,_,_⟩:=XG.out.up HB5.out.2
 have kg:=cell_lt xg0
 clear hs5 ht5 hB5 cga HB4 HN4 XA4 XB4
 go_wp2_with fail
 generalize hW6:World.alloc _ _=W6
 have B6:Below w5.heap.size w5 W6:=by rw [← hW6];exact up_alloc _ _
 have XF6:Hid (Cel W6 w5.heap.size (.slice pa na ca) (.slice pb nb cb)):=celW hW6 (by simp [go_sem])
 have HB6:=hid2 (bstep HB5.out.1 B6) (bstep HB5.out.2 B6)
 have HN6:Hid ((Nums .i64 W6 (.slice p3 n3 c3) ta.1∧Nums .i64 W6 (.slice p4 n4 c4) ta.2∧n4≤c4)∧Nums .i64 W6 (.slice p5 n5 c5) tb_.1∧Nums .i64 W6 (.slice p6 n6 c6) tb_.2∧n6≤c6):=⟨⟨HN5.out.1.1.up B6,HN5.out.1.2.1.up B6,HN5.out.1.2.2⟩,HN5.out.2.1.up B6,HN5.out.2.2.1.up B6,HN5.out.2.2.2⟩
 have HR6:Hid (OwnK .i64 3 W6 W0.heap.size (.slice pa na ca) RA.1∧OwnK .i64 23 W6 W0.heap.size (.slice pb nb cb) RA.2):=⟨HR5.out.1.up B6,HR5.out.2.up B6⟩
 clear hW6 B6 HB5 HN5 HX5 k0 k1 k2 k3 k4 k5 kz xa0 xa1 ka xb0 xb1 kb xg0 xg1 kg HR5
 refine (cgb.out W6 _ _ _ _ _ _ _ _ _ _ _ _ HB6.out.1 HN6.out.1.1 HN6.out.1.2.1 HN6.out.2.1 HN6.out.2.2.1 HN6.out.1.2.2 HN6.out.2.2.2).mono ?_
 rintro e w7 ⟨v7,rfl,⟨s7,t7,rfl,hs7,ht7⟩,hB7⟩
 obtain ⟨pc,nc,cc,rfl⟩:=hs7.form_
 obtain ⟨pd,nd,cd,rfl⟩:=ht7.form_
 have HB7:=hid2 (bstep HB6.out.1 hB7) (bstep HB6.out.2 hB7)
 have HR7:Hid ((OwnK .i64 3 w7 W0.heap.size (.slice pa na ca) RA.1∧OwnK .i64 23 w7 W0.heap.size (.slice pb nb cb) RA.2)∧OwnK .i64 3 w7 W0.heap.size (.slice pc nc cc) RB.1∧OwnK .i64 23 w7 W0.heap.size (.slice pd nd cd) RB.2):=⟨⟨HR6.out.1.up hB7,HR6.out.2.up hB7⟩,hs7.low HB6.out.2.size,ht7.low HB6.out.2.size⟩
 have XF7:Hid (Cel w7 w5.heap.size (.slice pa na ca) (.slice pb nb cb)):=XF6.out.up hB7
 clear hs7 ht7 hB7 cgb HB6 HN6 XF6 HR6
 go_wp2_with fail
 generalize hW8:World.alloc _ _=W8
 have B8:Below w7.heap.size w7 W8:=by rw [← hW8];exact up_alloc _ _
 have XH8:Cel W8 w7.heap.size (.slice pc nc cc) (.slice pd nd cd):=(celW hW8 (by simp [go_sem])).out
 have XF8:=XF7.out.up B8
 have HB8:=hid2 (bstep HB7.out.1 B8) (bstep HB7.out.2 B8)
 have HR8:Hid ((OwnK .i64 3 W8 W0.heap.size (.slice pa na ca) RA.1∧OwnK .i64 23 W8 W0.heap.size (.slice pb nb cb) RA.2)∧OwnK .i64 3 W8 W0.heap.size (.slice pc nc cc) RB.1∧OwnK .i64 23 W8 W0.heap.size (.slice pd nd cd) RB.2):=⟨⟨HR7.out.1.1.up B8,HR7.out.1.2.up B8⟩,HR7.out.2.1.up B8,HR7.out.2.2.up B8⟩
 have h56:=cell_lt XF7.out.1
 have h5s:=HB7.out.2.size
 have hx7:=cell_lt X7.out.1
 have x6:=X6.out.up HB8.out.2
 have x7:=X7.out.up HB8.out.2
 have X68:Hid (Cel W8 (w.heap.size+2) (.slice none 0 0) (.slice none 0 0)):=x6
 have X78:Hid (Cel W8 (w.heap.size+3) (.slice none 0 0) (.slice none 0 0)):=x7
 obtain ⟨u0,u1,u2,u3⟩:=x6
 obtain ⟨v0,v1,v2,v3⟩:=x7
 obtain ⟨f0,f1,_,_⟩:=XF8
 obtain ⟨y0,y1,_,_⟩:=XH8
 have j0:=cell_lt u0
 have j1:=cell_lt v0
 have j2:=cell_lt f0
 have j3:=cell_lt y0
 clear hW8 B8 HB7 HR7 XF7
 go_region
 generalize hZ:World.drew _=Z
 obtain ⟨HZ,⟨e0,e1⟩,e2,e3⟩:=fin22z (w:=w) (B:=W0.heap.size) (Z:=Z) rfl (by rw [← hZ];exact below_drew1 (Below.refl _ _)) X68.out X78.out (by omega) HB8.out.1 (by omega) (by omega) (by omega) (by omega) HR8.out.1.1 HR8.out.1.2 HR8.out.2.1 HR8.out.2.2
 clear hZ
 go_wp2
 exact bodyPost_ret (v:=.tuple #[.agg #[.slice pa na ca,.slice pb nb cb],.agg #[.slice pc nc cc,.slice pd nd cd],.int .i64 0]) (by simp [results,Tryz.results68,go_sem,e0,e1,e2,e3]) rfl ⟨_,_,rfl,HZ.out⟩
theorem NodesV.ls {ns:List Nd} {s:Nd} (h:NodesV ns):NodesV (lsN ns s):=by
 unfold lsN
 split
 ·exact h.leaf
 ·exact h.do
theorem NodesV.lyF {ns sts:List Nd} (h:NodesV ns):∀ i,NodesV (lyF sts ns i).2.1
 | 0=>h
 | i+1=>by
  show NodesV (if (Wd.lyF sts ns i).1=0 then (lsE (Wd.lyF sts ns i).2.1 (stA sts i),lsN (Wd.lyF sts ns i).2.1 (stA sts i),lsR (Wd.lyF sts ns i).2.1 (stA sts i)) else Wd.lyF sts ns i).2.1
  split
  ·exact (NodesV.lyF h i).ls
  ·exact NodesV.lyF h i
theorem NodesV.lo {ns sts:List Nd} {e:Int} (h:NodesV ns):NodesV (loN e ns sts):=by
 unfold loN
 split
 ·unfold lyM
  split
  ·exact NodesV.lyF h _
  ·exact h
 ·exact h
theorem gv_loss {op:Int} (h:op=2∨op=3∨op=4∨op=9∨op=10∨op=11):GvC op:=by
 rcases h with rfl|rfl|rfl|rfl|rfl|rfl
 ·exact ⟨fun _=>ga2,fun _=>gb2⟩
 ·exact ⟨fun _=>ga3,fun _=>gb3⟩
 ·exact ⟨fun _=>ga4,fun _=>gb4⟩
 ·exact ⟨fun _=>ga9,fun h=>absurd h (by decide)⟩
 ·exact ⟨fun _=>ga10,fun h=>absurd h (by decide)⟩
 ·exact ⟨fun _=>ga11,fun h=>absurd h (by decide)⟩
/-- A step whose node may be swept over. -/
def StpK (s:Nd):Prop:=InR s.k∧(s.op≠1→GvC s.op)
theorem NodesK.ls {ns:List Nd} {s:Nd} (h:NodesK ns) (hs:StpK s):NodesK (lsN ns s):=by
 unfold lsN
 split
 ·exact h.leaf
 ·rename_i h1
  exact h.do hs.1 (hs.2 h1)
theorem NodesK.lyF {ns sts:List Nd} (h:NodesK ns) (hs:∀ i,StpK (stA sts i)):∀ i,NodesK (lyF sts ns i).2.1
 | 0=>h
 | i+1=>by
  show NodesK (if (Wd.lyF sts ns i).1=0 then (lsE (Wd.lyF sts ns i).2.1 (stA sts i),lsN (Wd.lyF sts ns i).2.1 (stA sts i),lsR (Wd.lyF sts ns i).2.1 (stA sts i)) else Wd.lyF sts ns i).2.1
  split
  ·exact (NodesK.lyF h hs i).ls (hs i)
  ·exact NodesK.lyF h hs i
theorem NodesK.lo {ns sts:List Nd} {e:Int} (h:NodesK ns) (hs:∀ i,StpK (stA sts i)):NodesK (loN e ns sts):=by
 unfold loN
 split
 ·unfold lyM
  split
  ·exact NodesK.lyF h hs _
  ·exact h
 ·exact h
theorem stpk_leaf (y:List Int):StpK (lfS y):=⟨by show InR 0;unfold InR;omega,fun h=>absurd rfl h⟩
theorem stpk_op {op a b k:Int} (h:op=2∨op=3∨op=4∨op=9∨op=10∨op=11) (hk:InR k):StpK (opS op a b k):=⟨hk,fun _=>gv_loss h⟩
theorem stpk_no:StpK ⟨1,0,0,0,[],[]⟩:=⟨by show InR 0;unfold InR;omega,fun h=>absurd rfl h⟩
theorem sqS_K {N o:Int} {y:List Int}:∀ i,StpK (stA (sqS N o y) i)
 | 0=>stpk_leaf y
 | 1=>stpk_op (by omega) (by unfold InR;omega)
 | 2=>stpk_op (by omega) (by unfold InR;omega)
 | 3=>stpk_op (by omega) (by unfold InR;omega)
 | _+4=>stpk_no
theorem szS_K {N o:Int} {y:List Int}:∀ i,StpK (stA (szS N o y) i)
 | 0=>stpk_leaf y
 | 1=>stpk_op (by omega) (by unfold InR;omega)
 | 2=>stpk_op (by omega) (by unfold InR;omega)
 | 3=>stpk_op (by omega) (by unfold InR;omega)
 | _+4=>stpk_no
theorem hgS_K {N o:Int} {n:Nat} {c:Int}:∀ i,StpK (stA (hgS N o n c) i)
 | 0=>stpk_leaf _
 | 1=>stpk_leaf _
 | 2=>stpk_op (by omega) (by unfold InR;omega)
 | 3=>stpk_op (by omega) (by unfold InR;omega)
 | 4=>stpk_op (by omega) (by unfold InR;omega)
 | 5=>stpk_op (by omega) (by unfold InR;omega)
 | 6=>stpk_op (by omega) (by unfold InR;omega)
 | 7=>stpk_op (by omega) (by unfold InR;omega)
 | 8=>stpk_op (by omega) (by unfold InR;omega)
 | _+9=>stpk_no
end Go.Proofs.YtjlofobnmjompaaGreatDoor.Wd
namespace Go.Proofs.YtjlofobnmjompaaGreatDoor.Wd
/-- A layer: its kind and two numbers. -/
abbrev Ly:=ByteArray×Int×Int
def kDense:ByteArray:=⟨#[100,101,110,115,101]⟩
def kConv:ByteArray:=⟨#[99,111,110,118]⟩
def kPool:ByteArray:=⟨#[112,111,111,108]⟩
def kBend:ByteArray:=⟨#[98,101,110,100]⟩
def kSkip:ByteArray:=⟨#[115,107,105,112]⟩
/-- A kind's place in the table; 5: it is none. -/
def kindI (s:ByteArray):Nat:=if s=kDense then 0 else if s=kConv then 1 else if s=kPool then 2 else if s=kBend then 3 else if s=kSkip then 4 else 5
def kName (i:Nat):ByteArray:=[kDense,kConv,kPool,kBend,kSkip].getD i ⟨#[]⟩
theorem kind_cases (s:ByteArray):(s=kDense∧kindI s=0)∨(s=kConv∧kindI s=1)∨(s=kPool∧kindI s=2)∨(s=kBend∧kindI s=3)∨(s=kSkip∧kindI s=4)∨((s≠kDense∧s≠kConv∧s≠kPool∧s≠kBend∧s≠kSkip)∧kindI s=5):=by
 by_cases h0:s=kDense
 ·exact .inl ⟨h0,by rw [h0];decide +kernel⟩
 by_cases h1:s=kConv
 ·exact .inr (.inl ⟨h1,by rw [h1];decide +kernel⟩)
 by_cases h2:s=kPool
 ·exact .inr (.inr (.inl ⟨h2,by rw [h2];decide +kernel⟩))
 by_cases h3:s=kBend
 ·exact .inr (.inr (.inr (.inl ⟨h3,by rw [h3];decide +kernel⟩)))
 by_cases h4:s=kSkip
 ·exact .inr (.inr (.inr (.inr (.inl ⟨h4,by rw [h4];decide +kernel⟩))))
 ·exact .inr (.inr (.inr (.inr (.inr ⟨⟨h0,h1,h2,h3,h4⟩,by simp [kindI,h0,h1,h2,h3,h4]⟩))))
theorem kind_name (s:ByteArray) (h:kindI s < 5):kName (kindI s)=s:=by
 rcases kind_cases s with ⟨rfl,e⟩|⟨rfl,e⟩|⟨rfl,e⟩|⟨rfl,e⟩|⟨rfl,e⟩|⟨_,e⟩
 ·rw [e];rfl
 ·rw [e];rfl
 ·rw [e];rfl
 ·rw [e];rfl
 ·rw [e];rfl
 ·omega
def kCnt (i:Nat):Nat:=if i=1 then 2 else if i < 4 then 1 else 0
def kTopA (i:Nat):Int:=if i=0 then 256 else if i=1 then 16 else if i=2 then 16 else if i=3 then 5 else 0
def kTopB (i:Nat):Int:=if i=1 then 16 else 0
/-- May a layer's kind and numbers be? -/
abbrev LayOk (l:Ly):Prop:=kindI l.1 < 5∧(if 0 < kCnt (kindI l.1) then 1≤l.2.1∧l.2.1≤kTopA (kindI l.1) else l.2.1=0)∧(if 1 < kCnt (kindI l.1) then 1≤l.2.2∧l.2.2≤kTopB (kindI l.1) else l.2.2=0)
theorem layOk_cases {l:Ly} (h:LayOk l):(l.1=kDense∧kindI l.1=0∧(1≤l.2.1∧l.2.1≤256)∧l.2.2=0)∨(l.1=kConv∧kindI l.1=1∧(1≤l.2.1∧l.2.1≤16)∧1≤l.2.2∧l.2.2≤16)∨(l.1=kPool∧kindI l.1=2∧(1≤l.2.1∧l.2.1≤16)∧l.2.2=0)∨(l.1=kBend∧kindI l.1=3∧(1≤l.2.1∧l.2.1≤5)∧l.2.2=0)∨(l.1=kSkip∧kindI l.1=4∧l.2.1=0∧l.2.2=0):=by
 obtain ⟨h0,h1,h2⟩:=h
 rcases kind_cases l.1 with ⟨e,k⟩|⟨e,k⟩|⟨e,k⟩|⟨e,k⟩|⟨e,k⟩|⟨_,k⟩ <;> rw [k] at h0 h1 h2 <;> simp [kCnt,kTopA,kTopB] at h1 h2
 ·exact .inl ⟨e,k,h1,h2⟩
 ·exact .inr (.inl ⟨e,k,h1,h2⟩)
 ·exact .inr (.inr (.inl ⟨e,k,h1,h2⟩))
 ·exact .inr (.inr (.inr (.inl ⟨e,k,h1,h2⟩)))
 ·exact .inr (.inr (.inr (.inr ⟨e,k,h1,h2⟩)))
 ·omega
/-- What comes in. -/
def InOk (d:List Int):Prop:=(∃ x,d = [x]∧1≤x∧x≤1024)∨∃ x y,d = [x,y]∧(1≤x∧x≤64)∧1≤y∧y≤64
def inOkB (d:List Int):Bool:=match d with
 | [x]=>decide (1≤x∧x≤1024)
 | [x,y]=>decide ((1≤x∧x≤64)∧1≤y∧y≤64)
 | _=>false
theorem inOkB_iff (d:List Int):inOkB d=true↔InOk d:=by
 unfold InOk
 match d with
 | []=>simp [inOkB]
 | [x]=>simp [inOkB]
 | [x,y]=>
  simp only [inOkB,decide_eq_true_eq]
  exact ⟨fun h=>.inr ⟨x,y,rfl,h⟩,fun h=>by
   rcases h with ⟨_,h,_⟩|⟨_,_,h,h2⟩
   ·simp at h
   ·simp only [List.cons.injEq,and_true] at h
    obtain ⟨rfl,rfl⟩:=h
    exact h2⟩
 | x :: y :: z :: r=>simp [inOkB]
def formB (d:List Int) (ls:List Ly):Bool:=inOkB d && ls.all fun l=>decide (LayOk l)
def prodI (l:List Int):Int:=l.foldl (·*·) 1
def outD (l:Ly) (d:List Int):Option (List Int):=
 if kindI l.1=0 then some [l.2.1]
 else if kindI l.1=1 then (if d.length=2∧l.2.2≤d.getD 1 0 then some [l.2.1,d.getD 1 0 - l.2.2+1] else none)
 else if kindI l.1=2 then (if d.length=2∧l.2.1≤d.getD 1 0 then some [d.getD 0 0,Int.tdiv (d.getD 1 0) l.2.1] else none)
 else some d
def parD (l:Ly) (d:List Int):List (List Int):=if kindI l.1=0 then [[l.2.1,prodI d],[l.2.1]] else if kindI l.1=1 then [[l.2.1,d.getD 0 0,l.2.2]] else []
def lyD:Ly:=(⟨#[]⟩,0,0)
def lyA (ls:List Ly) (i:Nat):Ly:=ls.getD i lyD
def shA (S:List (List Int)) (i:Nat):List Int:=S.getD i []
/-- May the i-th layer, a skip, add what went into the one ahead? -/
abbrev SkipOk (ls:List Ly) (S:List (List Int)) (i:Nat):Prop:=0 < i∧(lyA ls (i - 1)).1≠kSkip∧shA S (i - 1)=shA S i
def stepS (ls:List Ly) (i:Nat) (S:List (List Int)):Option (List (List Int)):=
 if (lyA ls i).1=kSkip∧¬ SkipOk ls S i then none else (outD (lyA ls i) (shA S i)).map fun o=>S++[o]
/-- What comes in, and what goes out of the first i layers. -/
def shN (d:List Int) (ls:List Ly):Nat→Option (List (List Int))
 | 0=>some [d]
 | i+1=>(shN d ls i).bind (stepS ls i)
theorem shN_none {d:List Int} {ls:List Ly} {i:Nat} (h:shN d ls i=none):∀ k,shN d ls (i+k)=none
 | 0=>h
 | k+1=>by rw [← Nat.add_assoc];show (shN d ls (i+k)).bind _=none;rw [shN_none h k];rfl
theorem shN_stop {d:List Int} {ls:List Ly} {i n:Nat} (h:shN d ls i=none) (hi:i≤n):shN d ls n=none:=by
 have:=shN_none h (n - i)
 rwa [show i+(n - i)=n by omega] at this
theorem shN_succ {d:List Int} {ls:List Ly} {i:Nat} {S:List (List Int)} (h:shN d ls i=some S):shN d ls (i+1)=stepS ls i S:=by
 show (shN d ls i).bind _=_
 rw [h];rfl
theorem shN_len {d:List Int} {ls:List Ly}:∀ {i:Nat} {S:List (List Int)},shN d ls i=some S→S.length=i+1
 | 0,S,h=>by cases h;rfl
 | i+1,S,h=>by
  cases hi:shN d ls i with
  | none=>rw [shN_stop hi (Nat.le_succ i)] at h;cases h
  | some S0=>
   rw [shN_succ hi] at h
   unfold stepS at h
   split at h
   ·cases h
   ·obtain ⟨o,ho,rfl⟩:=Option.map_eq_some_iff.1 h
    rw [List.length_append,shN_len hi];rfl
theorem stepS_pre {ls:List Ly} {i:Nat} {S S':List (List Int)} (h:stepS ls i S=some S'):∃ o,S'=S++[o]∧outD (lyA ls i) (shA S i)=some o:=by
 unfold stepS at h
 split at h
 ·cases h
 ·obtain ⟨o,ho,rfl⟩:=Option.map_eq_some_iff.1 h
  exact ⟨o,rfl,ho⟩
theorem lyA_mem {ls:List Ly} {i:Nat} (h:i < ls.length):lyA ls i∈ls:=by
 unfold lyA
 rw [List.getD_eq_getElem?_getD,List.getElem?_eq_getElem h]
 exact List.getElem_mem _
theorem shA_app {S:List (List Int)} {i:Nat} (T:List (List Int)) (h:i < S.length):shA (S++T) i=shA S i:=by
 unfold shA
 rw [List.getD_eq_getElem?_getD,List.getD_eq_getElem?_getD,List.getElem?_append_left h]
theorem shA_last (S:List (List Int)) (o:List Int) (i:Nat) (h:S.length=i):shA (S++[o]) i=o:=by
 subst h
 unfold shA
 simp
theorem InOk.out {l:Ly} {d o:List Int} (hd:InOk d) (hl:LayOk l) (h:outD l d=some o):InOk o:=by
 unfold outD at h
 rcases layOk_cases hl with ⟨_,k,h1,h2⟩|⟨_,k,h1,h2⟩|⟨_,k,h1,h2⟩|⟨_,k,h1,h2⟩|⟨_,k,h1,h2⟩ <;> rw [k] at h <;> simp at h
 ·subst h
  exact .inl ⟨_,rfl,by omega,by omega⟩
 ·obtain ⟨⟨h3,h4⟩,rfl⟩:=h
  rcases hd with ⟨x,rfl,_⟩|⟨x,y,rfl,hx,hy⟩
  ·simp at h3
  ·simp at h4 ⊢
   exact .inr ⟨_,_,rfl,by omega,by omega,by omega⟩
 ·obtain ⟨⟨h3,h4⟩,rfl⟩:=h
  rcases hd with ⟨x,rfl,_⟩|⟨x,y,rfl,hx,hy⟩
  ·simp at h3
  ·simp at h4 ⊢
   refine .inr ⟨_,_,rfl,hx,?_,?_⟩
   ·rw [Int.tdiv_eq_ediv_of_nonneg (by omega)]
    exact (Int.le_ediv_iff_mul_le (by omega)).2 (by omega)
   ·rw [Int.tdiv_eq_ediv_of_nonneg (by omega)]
    have:=Int.ediv_le_self l.2.1 (a:=y) (by omega)
    omega
 ·subst h;exact hd
 ·subst h;exact hd
theorem shN_in {d:List Int} {ls:List Ly} (hd:InOk d) (hl:∀ l∈ls,LayOk l):∀ {i:Nat} {S:List (List Int)},i≤ls.length→shN d ls i=some S→∀ k,k < i+1→InOk (shA S k)
 | 0,S,_,h,k,hk=>by
  cases h
  obtain rfl:k=0:=by omega
  exact hd
 | i+1,S,hi,h,k,hk=>by
  cases hs:shN d ls i with
  | none=>rw [shN_stop hs (Nat.le_succ i)] at h;cases h
  | some S0=>
   rw [shN_succ hs] at h
   obtain ⟨o,rfl,ho⟩:=stepS_pre h
   have hln:=shN_len hs
   rcases Nat.lt_or_ge k (i+1) with hk2|hk2
   ·rw [shA_app _ (by omega)]
    exact shN_in hd hl (by omega) hs k hk2
   ·rw [shA_last S0 o k (by omega)]
    exact (shN_in hd hl (by omega) hs i (by omega)).out (hl _ (lyA_mem (by omega))) ho
theorem prodI_one (x:Int):prodI [x]=x:=by simp [prodI]
theorem prodI_two (x y:Int):prodI [x,y]=x*y:=by simp [prodI]
theorem prodI_three (x y z:Int):prodI [x,y,z]=x*y*z:=by simp [prodI]
theorem mprod_rng {x y a b:Int} (hx:1≤x∧x≤a) (hy:1≤y∧y≤b):1≤x*y∧x*y≤a*b:=by
 refine ⟨?_,Int.mul_le_mul hx.2 hy.2 (by omega) (by omega)⟩
 have:=Int.mul_le_mul hx.1 hy.1 (by omega) (by omega)
 omega
theorem InOk.prod {d:List Int} (h:InOk d):1≤prodI d∧prodI d≤4096:=by
 rcases h with ⟨x,rfl,h⟩|⟨x,y,rfl,hx,hy⟩
 ·rw [prodI_one];omega
 ·rw [prodI_two]
  have:=mprod_rng hx hy
  omega
/-- How many parameters a layer has. -/
def psz (l:Ly) (d:List Int):Int:=if kindI l.1=0 then l.2.1*prodI d+l.2.1 else if kindI l.1=1 then l.2.1*d.getD 0 0*l.2.2 else 0
def cntP (ls:List Ly) (S:List (List Int)):Nat→Int
 | 0=>0
 | i+1=>cntP ls S i+psz (lyA ls i) (shA S i)
theorem psz_rng {l:Ly} {d:List Int} (hd:InOk d) (hl:LayOk l):0≤psz l d∧psz l d≤1049600:=by
 unfold psz
 have hp:=hd.prod
 rcases layOk_cases hl with ⟨_,k,h1,h2⟩|⟨_,k,h1,h2⟩|⟨_,k,h1,h2⟩|⟨_,k,h1,h2⟩|⟨_,k,h1,h2⟩ <;> rw [k] <;> simp
 ·have:=mprod_rng h1 hp
  omega
 ·rcases hd with ⟨x,rfl,h⟩|⟨x,y,rfl,hx,hy⟩
  ·have:=mprod_rng (mprod_rng h1 h) h2
   simp
   omega
  ·have:=mprod_rng (mprod_rng h1 hx) h2
   simp
   omega
theorem cntP_rng {ls:List Ly} {S:List (List Int)}:∀ {i:Nat},(∀ k,k < i→InOk (shA S k))→(∀ k,k < i→LayOk (lyA ls k))→0≤cntP ls S i∧cntP ls S i≤1049600*(i:Int)
 | 0,_,_=>by simp [cntP]
 | i+1,h,h2=>by
  have:=cntP_rng (fun k hk=>h k (by omega)) (fun k hk=>h2 k (by omega)) (i:=i)
  have h3:=psz_rng (h i (by omega)) (h2 i (by omega))
  simp only [cntP]
  omega
/-- More than may be: the reasons, the first i layers' parameters among them. -/
def bigS (S:List (List Int)):Bool:=S.any fun s=>decide (4096 < prodI s)
def bigP (l:Ly) (d:List Int):Bool:=(parD l d).any fun s=>decide (4096 < prodI s)
def bigN (ls:List Ly) (S:List (List Int)):Nat→Bool
 | 0=>false
 | i+1=>bigN ls S i || bigP (lyA ls i) (shA S i)
def tooM (ls:List Ly) (S:List (List Int)):Bool:=decide (16 < ls.length) || bigS S || bigN ls S ls.length || decide (4096 < cntP ls S ls.length)
/-- What Shapes answers: an error, shapes, how many parameters. -/
def nE (d:List Int) (ls:List Ly):Int:=if formB d ls=true then (match shN d ls ls.length with|none=>4|some S=>if tooM ls S=true then 2 else 0) else 1
def nS (d:List Int) (ls:List Ly):List (List Int):=if nE d ls=0 then (shN d ls ls.length).getD [] else []
def nP (d:List Int) (ls:List Ly):Int:=if nE d ls=0 then cntP ls ((shN d ls ls.length).getD []) ls.length else 0
theorem formB_iff (d:List Int) (ls:List Ly):formB d ls=true↔InOk d∧∀ l∈ls,LayOk l:=by
 unfold formB
 rw [Bool.and_eq_true,inOkB_iff,List.all_eq_true]
 simp only [decide_eq_true_eq]
theorem nE_form {d:List Int} {ls:List Ly} (h:¬ formB d ls=true):nE d ls=1:=by unfold nE;rw [if_neg h]
theorem nE_none {d:List Int} {ls:List Ly} (h:formB d ls=true) (h2:shN d ls ls.length=none):nE d ls=4:=by unfold nE;rw [if_pos h,h2]
theorem nE_too {d:List Int} {ls:List Ly} {S:List (List Int)} (h:formB d ls=true) (h2:shN d ls ls.length=some S) (h3:tooM ls S=true):nE d ls=2:=by unfold nE;rw [if_pos h,h2];simp [h3]
theorem nE_ok {d:List Int} {ls:List Ly} {S:List (List Int)} (h:formB d ls=true) (h2:shN d ls ls.length=some S) (h3:tooM ls S=false):nE d ls=0∧nS d ls=S∧nP d ls=cntP ls S ls.length:=by
 have e:nE d ls=0:=by unfold nE;rw [if_pos h,h2];simp [h3]
 refine ⟨e,?_,?_⟩
 ·unfold nS;rw [if_pos e,h2];rfl
 ·unfold nP;rw [if_pos e,h2];rfl
theorem nE_bad {d:List Int} {ls:List Ly} (h:nE d ls≠0):nS d ls = []∧nP d ls=0:=⟨if_neg h,if_neg h⟩
/-- What a good net is. -/
theorem net_good {d:List Int} {ls:List Ly} (h:nE d ls=0):∃ S,formB d ls=true∧shN d ls ls.length=some S∧tooM ls S=false:=by
 unfold nE at h
 split at h
 ·rename_i hf
  cases hs:shN d ls ls.length with
  | none=>rw [hs] at h;simp at h
  | some S=>
   rw [hs] at h
   refine ⟨S,hf,rfl,?_⟩
   cases ht:tooM ls S with
   | false=>rfl
   | true=>simp [ht] at h
 ·cases h
end Go.Proofs.YtjlofobnmjompaaGreatDoor.Wd
