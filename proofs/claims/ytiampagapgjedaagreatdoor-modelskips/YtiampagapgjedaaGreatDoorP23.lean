/- The code's At and Value. · Tensors: what matm.Sum hands back. -/
import Derived.Test.YtiampagapgjedaaGreatDoorP21
import Derived.Test.YtiampagapgjedaaGreatDoorP17
import Derived.Test.YtiampagapgjedaaGreatDoorP16
set_option linter.unusedVariables false
set_option linter.unusedSimpArgs false
set_option maxHeartbeats 16000000
set_option maxRecDepth 16000
namespace Go.Proofs.YtiampagapgjedaaGreatDoor.Wd
open Go.RowKit Fx
theorem fall6 {W:World} {b:Nat} {v0 v1 v2 v3 v4 v5 x4 x5:Value} {e:TypeId} (h:W.heap[b]?=some (.cells #[v0,v1,v2,v3,v4,v5] e (0,0))):((W.setCell ⟨b,4,none⟩ x4).setCell ⟨b,5,none⟩ x5).heap[b]?=some (.cells #[v0,v1,v2,v3,x4,x5] e (0,0)):=by
 rw [heap_setat (heap_setat h)]
 rfl
theorem cat_any (B tb:Nat) (ns:List Nd) (hG:NodesG ns) (i:Nat) (nd:Nd) (hi:ns[i]?=some nd) (w:World) (hT:TapC w B tb ns):
  Calls Tryz.prog 25 #[.pointer (some ⟨tb,0,none⟩),.int .i64 (i:Int)] w fun e w'=>∃ s t,e = .returned (.tuple #[.agg #[.int .i64 nd.op,.int .i64 nd.a,.int .i64 nd.b,.int .i64 nd.k,s,t],.bool true])∧OwnK .i64 3 w' w.heap.size s nd.D∧OwnK .i64 61 w' w.heap.size t nd.X∧Below w.heap.size w w':=by
 have hTT:Hid (TapC w B tb ns):=hT
 obtain ⟨pL,cL,xs0,hv,ho,hn0,hnc⟩:=Tap.head hT
 obtain ⟨N,eN⟩:∃ N,ns.length=N:=⟨_,rfl⟩
 rw [eN] at hv ho hnc
 have hcell:=(head_cell hv).1
 have hiN:i < N:=by rw [← eN];exact (List.getElem?_eq_some_iff.1 hi).1
 obtain ⟨q,nd',s_,t_,eq,hnd,c0,c1,c2,c3,c4,c5,hs,ht⟩:=node_cells ho hn0 eN i hiN
 rw [hi] at hnd
 cases hnd
 obtain ⟨pA,nA,cA,rfl⟩:=hs.form_
 obtain ⟨qA,mA,eA,rfl⟩:=ht.form_
 subst eq
 have hq:decide (0≤(i:Int)∧(i:Int) < (ns.length:Int))=true:=decide_eq_true (by omega)
 have HN:Hid (Nums .i64 w (.slice pA nA cA) nd.D∧Nums .i64 w (.slice qA mA eA) nd.X∧isP nd.D nd.X):=⟨hs.nums,ht.nums,(hG nd (nd_mem hi)).1⟩
 have HC:Hid (w.cell? ⟨tb,0,none⟩=some (.slice (some ⟨q,0,none⟩) N cL)∧w.cell? ⟨q,i*6,none⟩=some (.int .i64 nd.op)∧w.cell? ⟨q,i*6+1,none⟩=some (.int .i64 nd.a)∧w.cell? ⟨q,i*6+2,none⟩=some (.int .i64 nd.b)∧w.cell? ⟨q,i*6+3,none⟩=some (.int .i64 nd.k)∧w.cell? ⟨q,i*6+4,none⟩=some (.slice pA nA cA)∧w.cell? ⟨q,i*6+5,none⟩=some (.slice qA mA eA)):=⟨hcell,c0,c1,c2,c3,c4,c5⟩
 have d2:(i:Int) < (N:Int):=by omega
 obtain ⟨op,a,b,k,D,X⟩:=nd
 simp only [] at HC HN ⊢
 clear hT hv ho hn0 hnc hs ht c0 c1 c2 c3 c4 c5 hcell hG hi
 go_enter Tryz.func25,Tryz.ntmps25
 go_wp2_with fail
 generalize hW0:World.alloc _ _=W0
 have HR0:W0.heap[w.heap.size]?=some (.cells #[.int .i64 0,.int .i64 0,.int .i64 0,.int .i64 0,.slice none 0 0,.slice none 0 0] 65 (0,0)):=by rw [← hW0];exact heap_alloc_new _ _
 have HB0:Hid (Below w.heap.size w W0):=by show Below _ _ _;rw [← hW0];exact up_alloc _ _
 clear hW0
 refine (chas_any B tb ns (i:Int) true hq W0 (hTT.out.up HB0.out)).mono ?_
 rintro e w1 ⟨rfl,ew1⟩
 subst ew1
 clear hq
 have c:=cell_low HC.out.1 HB0.out
 have c0:=cell_low HC.out.2.1 HB0.out
 have c1:=cell_low HC.out.2.2.1 HB0.out
 have c2:=cell_low HC.out.2.2.2.1 HB0.out
 have c3:=cell_low HC.out.2.2.2.2.1 HB0.out
 have c4:=cell_low HC.out.2.2.2.2.2.1 HB0.out
 have c5:=cell_low HC.out.2.2.2.2.2.2 HB0.out
 have k0:=cell_lt c
 have k1:=cell_lt c0
 go_wp2_with fail
 generalize hW2:World.alloc _ _=W2
 have HX2:W2.heap[w1.heap.size]?=some (.cells #[.int .i64 op,.int .i64 a,.int .i64 b,.int .i64 k,.slice pA nA cA,.slice qA mA eA] 65 (0,0)):=by rw [← hW2];exact heap_alloc_new _ _
 have HB2:Hid (Below w1.heap.size w1 W2∧Below w.heap.size w W2):=by
  have h:=up_alloc w1 (.cells #[.int .i64 op,.int .i64 a,.int .i64 b,.int .i64 k,.slice pA nA cA,.slice qA mA eA] 65)
  rw [hW2] at h
  exact ⟨h,bstep HB0.out h⟩
 have HR2:W2.heap[w.heap.size]?=some (.cells #[.int .i64 0,.int .i64 0,.int .i64 0,.int .i64 0,.slice none 0 0,.slice none 0 0] 65 (0,0)):=by rw [HB2.out.1.block _ (heap_lt HR0)];exact HR0
 clear hW2 c c0 c1 c2 c3 c4 c5 k0 k1
 refine (ccopied_any pA qA nA cA mA eA D X HN.out.2.2 W2 (HN.out.1.up HB2.out.2) (HN.out.2.1.up HB2.out.2)).mono ?_
 rintro e w3 ⟨v3,rfl,⟨s3,t3,rfl,hs,ht⟩,hB3⟩
 obtain ⟨pa,na,ca,rfl⟩:=hs.form_
 obtain ⟨pb,nb,cb,rfl⟩:=ht.form_
 have HX3:w3.heap[w1.heap.size]?=some (.cells #[.int .i64 op,.int .i64 a,.int .i64 b,.int .i64 k,.slice pA nA cA,.slice qA mA eA] 65 (0,0)):=by rw [hB3.block _ (heap_lt HX2)];exact HX2
 have HR3:w3.heap[w.heap.size]?=some (.cells #[.int .i64 0,.int .i64 0,.int .i64 0,.int .i64 0,.slice none 0 0,.slice none 0 0] 65 (0,0)):=by rw [hB3.block _ (heap_lt HR2)];exact HR2
 have HO:Hid (OwnK .i64 3 w3 w.heap.size (.slice pa na ca) D∧OwnK .i64 61 w3 w.heap.size (.slice pb nb cb) X):=⟨hs.low HB2.out.2.size,ht.low HB2.out.2.size⟩
 have HB3:Hid (Below w.heap.size w w3):=bstep HB2.out.2 hB3
 have hlt:w.heap.size < w1.heap.size:=heap_lt HR0
 clear hs ht hB3 HX2 HR2 HR0 HN HC d2 hTT
 have n1:w1.heap.size≠w.heap.size:=by omega
 have n2:w.heap.size≠w1.heap.size:=by omega
 obtain ⟨⟨x0,x1,x2,x3,x4,x5⟩,xf⟩:=box6 HX3
 obtain ⟨⟨r0,r1,r2,r3,r4,r5⟩,rf⟩:=box6 HR3
 have k1:=heap_lt HX3
 have k2:=heap_lt HR3
 have HX4:Hid ((((w3.setCell ⟨w1.heap.size,4,none⟩ (.slice pa na ca)).setCell ⟨w1.heap.size,5,none⟩ (.slice pb nb cb)).heap[w1.heap.size]?=some (.cells #[.int .i64 op,.int .i64 a,.int .i64 b,.int .i64 k,.slice pa na ca,.slice pb nb cb] 65 (0,0))∧((w3.setCell ⟨w1.heap.size,4,none⟩ (.slice pa na ca)).setCell ⟨w1.heap.size,5,none⟩ (.slice pb nb cb)).heap[w.heap.size]?=some (.cells #[.int .i64 0,.int .i64 0,.int .i64 0,.int .i64 0,.slice none 0 0,.slice none 0 0] 65 (0,0)))∧Below w.heap.size w ((w3.setCell ⟨w1.heap.size,4,none⟩ (.slice pa na ca)).setCell ⟨w1.heap.size,5,none⟩ (.slice pb nb cb))∧Only [65] w3 ((w3.setCell ⟨w1.heap.size,4,none⟩ (.slice pa na ca)).setCell ⟨w1.heap.size,5,none⟩ (.slice pb nb cb))):=by
  refine ⟨⟨fall6 HX3,?_⟩,?_,?_⟩
  ·rw [heap_set _ _ _ _ _ (by omega),heap_set _ _ _ _ _ (by omega)]
   exact HR3
  ·exact (HB3.out.setCell (p:=⟨w1.heap.size,4,none⟩) (Nat.le_of_lt hlt) _).setCell (p:=⟨w1.heap.size,5,none⟩) (Nat.le_of_lt hlt) _
  ·exact (Only.set HX3 (by simp)).trans (Only.set (heap_setat HX3) (by simp))
 go_wp2
 generalize hW9:World.setCell _ _ _=W9
 have h0:=HX4.out.1.2
 have h1:=heap_setat (o:=0) (x:=(.int .i64 op)) h0
 have h2:=heap_setat (o:=1) (x:=(.int .i64 a)) h1
 have h3:=heap_setat (o:=2) (x:=(.int .i64 b)) h2
 have h4:=heap_setat (o:=3) (x:=(.int .i64 k)) h3
 have h5:=heap_setat (o:=4) (x:=(.slice pa na ca)) h4
 have H9:W9.heap[w.heap.size]?=some (.cells #[.int .i64 op,.int .i64 a,.int .i64 b,.int .i64 k,.slice pa na ca,.slice pb nb cb] 65 (0,0)):=by
  rw [← hW9]
  exact (heap_setat h5).trans rfl
 have B9:Below w.heap.size w W9:=by
  rw [← hW9]
  exact ((((((HX4.out.2.1.setCell (p:=⟨w.heap.size,0,none⟩) (Nat.le_refl _) _).setCell (p:=⟨w.heap.size,1,none⟩) (Nat.le_refl _) _).setCell (p:=⟨w.heap.size,2,none⟩) (Nat.le_refl _) _).setCell (p:=⟨w.heap.size,3,none⟩) (Nat.le_refl _) _).setCell (p:=⟨w.heap.size,4,none⟩) (Nat.le_refl _) _).setCell (p:=⟨w.heap.size,5,none⟩) (Nat.le_refl _) _)
 have O9:Only [65] w3 W9:=by
  rw [← hW9]
  exact ((((((HX4.out.2.2.trans (Only.set h0 (by simp))).trans (Only.set h1 (by simp))).trans (Only.set h2 (by simp))).trans (Only.set h3 (by simp))).trans (Only.set h4 (by simp))).trans (Only.set h5 (by simp)))
 obtain ⟨⟨z0,z1,z2,z3,z4,z5⟩,_⟩:=box6 H9
 exact bodyPost_ret (v:=.tuple #[.agg #[.int .i64 op,.int .i64 a,.int .i64 b,.int .i64 k,.slice pa na ca,.slice pb nb cb],.bool true]) (by simp [results,Tryz.results25,go_sem,z0,z1,z2,z3,z4,z5]) rfl ⟨_,_,rfl,HO.out.1.only O9 (by decide),HO.out.2.only O9 (by decide),B9⟩
theorem catno_any (B tb:Nat) (ns:List Nd) (i:Int) (hi:i < 0∨(ns.length:Int)≤i) (w:World) (hT:TapC w B tb ns):
  Calls Tryz.prog 25 #[.pointer (some ⟨tb,0,none⟩),.int .i64 i] w fun e w'=>e = .returned (.tuple #[.agg #[.int .i64 0,.int .i64 0,.int .i64 0,.int .i64 0,.slice none 0 0,.slice none 0 0],.bool false])∧Below w.heap.size w w':=by
 have hTT:Hid (TapC w B tb ns):=hT
 have hq:decide (0≤i∧i < (ns.length:Int))=false:=decide_eq_false (by omega)
 clear hT hi
 go_enter Tryz.func25,Tryz.ntmps25
 go_wp2_with fail
 generalize hW0:World.alloc _ _=W0
 have h0:W0.heap[w.heap.size]?=some (.cells #[.int .i64 0,.int .i64 0,.int .i64 0,.int .i64 0,.slice none 0 0,.slice none 0 0] 65 (0,0)):=by rw [← hW0];exact heap_alloc_new _ _
 have HB0:Hid (Below w.heap.size w W0):=by show Below _ _ _;rw [← hW0];exact up_alloc _ _
 clear hW0
 refine (chas_any B tb ns i false hq W0 (hTT.out.up HB0.out)).mono ?_
 rintro e w1 ⟨rfl,ew1⟩
 subst ew1
 clear hq
 obtain ⟨⟨r0,r1,r2,r3,r4,r5⟩,rf⟩:=box6 h0
 have k2:=heap_lt h0
 go_wp2
 generalize hW9:World.setCell _ _ _=W9
 have h1:=heap_setat (o:=0) (x:=(.int .i64 0)) h0
 have h2:=heap_setat (o:=1) (x:=(.int .i64 0)) h1
 have h3:=heap_setat (o:=2) (x:=(.int .i64 0)) h2
 have h4:=heap_setat (o:=3) (x:=(.int .i64 0)) h3
 have h5:=heap_setat (o:=4) (x:=(.slice none 0 0)) h4
 have H9:W9.heap[w.heap.size]?=some (.cells #[.int .i64 0,.int .i64 0,.int .i64 0,.int .i64 0,.slice none 0 0,.slice none 0 0] 65 (0,0)):=by
  rw [← hW9]
  exact (heap_setat h5).trans rfl
 have B9:Below w.heap.size w W9:=by
  rw [← hW9]
  exact ((((((HB0.out.setCell (p:=⟨w.heap.size,0,none⟩) (Nat.le_refl _) _).setCell (p:=⟨w.heap.size,1,none⟩) (Nat.le_refl _) _).setCell (p:=⟨w.heap.size,2,none⟩) (Nat.le_refl _) _).setCell (p:=⟨w.heap.size,3,none⟩) (Nat.le_refl _) _).setCell (p:=⟨w.heap.size,4,none⟩) (Nat.le_refl _) _).setCell (p:=⟨w.heap.size,5,none⟩) (Nat.le_refl _) _)
 obtain ⟨⟨z0,z1,z2,z3,z4,z5⟩,_⟩:=box6 H9
 exact bodyPost_ret (v:=.tuple #[.agg #[.int .i64 0,.int .i64 0,.int .i64 0,.int .i64 0,.slice none 0 0,.slice none 0 0],.bool false]) (by simp [results,Tryz.results25,go_sem,z0,z1,z2,z3,z4,z5]) rfl ⟨rfl,B9⟩
theorem cvalue_any (B tb:Nat) (ns:List Nd) (hG:NodesG ns) (i:Nat) (nd:Nd) (hi:ns[i]?=some nd) (w:World) (hT:TapC w B tb ns):
  Calls Tryz.prog 28 #[.pointer (some ⟨tb,0,none⟩),.int .i64 (i:Int)] w fun e w'=>∃ v,e = .returned (.tuple #[v,.bool true])∧TRes w' w.heap.size v nd.D nd.X∧Below w.heap.size w w':=by
 have HAT:Hid (∀ W,Below w.heap.size w W→Calls Tryz.prog 25 #[.pointer (some ⟨tb,0,none⟩),.int .i64 (i:Int)] W fun e w'=>∃ s t,e = .returned (.tuple #[.agg #[.int .i64 nd.op,.int .i64 nd.a,.int .i64 nd.b,.int .i64 nd.k,s,t],.bool true])∧OwnK .i64 3 w' W.heap.size s nd.D∧OwnK .i64 61 w' W.heap.size t nd.X∧Below W.heap.size W w'):=fun W hW=>cat_any B tb ns hG i nd hi W (hT.up hW)
 obtain ⟨op,a,b,k,D,X⟩:=nd
 simp only [] at HAT ⊢
 clear hT hi hG
 go_enter Tryz.func28,Tryz.ntmps28
 go_wp2_with fail
 generalize hW0:World.alloc _ _=W0
 have HB0:Hid (Below w.heap.size w W0):=by show Below _ _ _;rw [← hW0];exact up_alloc _ _
 have XR:Hid (Cel W0 w.heap.size (.slice none 0 0) (.slice none 0 0)):=celW hW0 (by simp [go_sem])
 clear hW0
 refine (HAT.out W0 HB0.out).mono ?_
 rintro e w1 ⟨s,t,rfl,hs,ht,hB1⟩
 obtain ⟨pa,na,ca,rfl⟩:=hs.form_
 obtain ⟨pb,nb,cb,rfl⟩:=ht.form_
 have HF:Hid (TRes (set2 w1 w.heap.size (.slice pa na ca) (.slice pb nb cb)) w.heap.size (.agg #[.slice pa na ca,.slice pb nb cb]) D X∧Below w.heap.size w (set2 w1 w.heap.size (.slice pa na ca) (.slice pb nb cb))):=⟨(TRes.set hs ht (cell_lt XR.out.1)).low HB0.out.size,below_cell (bstep HB0.out hB1) _ (Nat.le_refl _) _ _⟩
 clear hs ht HAT
 have xr:=XR.out.up hB1
 have cf:=xr.set (.slice pa na ca) (.slice pb nb cb)
 obtain ⟨r0,r1,r2,r3⟩:=xr
 have kq:=cell_lt r0
 have z0:=cell_low cf.1 (up_alloc _ (.cells #[.int .i64 op,.int .i64 a,.int .i64 b,.int .i64 k,.slice pa na ca,.slice pb nb cb] 65))
 have z1:=cell_low cf.2.1 (up_alloc _ (.cells #[.int .i64 op,.int .i64 a,.int .i64 b,.int .i64 k,.slice pa na ca,.slice pb nb cb] 65))
 clear cf
 go_wp2
 exact bodyPost_ret (v:=.tuple #[.agg #[.slice pa na ca,.slice pb nb cb],.bool true]) (by simp [results,Tryz.results28,go_sem,z0,z1]) rfl ⟨_,rfl,HF.out.1.up (up_alloc _ _),bstep HF.out.2 (up_alloc _ _)⟩
/-- An order of one's own. -/
def RowO (B:Nat) (o:List Int) (v:Value) (W:World):Prop:=∃ p n c,v = .slice p n c∧OwnK .i64 3 W B (.slice p n c) o
theorem RowO.up {B:Nat} {o:List Int} {v:Value} {W W':World} (h:RowO B o v W) (hB:Below W.heap.size W W'):RowO B o v W':=by
 obtain ⟨p,n,c,e,h1⟩:=h
 exact ⟨p,n,c,e,h1.up hB⟩
theorem sum_own (p p2:Option Addr) (n c n2 c2:Nat) (d x:List Int) (side:Int) (hr:InR side) (hd:RI d) (hx:RI x) (hn10:n≤10) (w:World) (h1:Nums .i64 w (.slice p n c) d) (h2:Nums .i64 w (.slice p2 n2 c2) x):
  Calls Tryz.prog 151 #[.agg #[.slice p n c,.slice p2 n2 c2],.int .i64 side] w fun e w'=>∃ v',e = .returned (.tuple #[v',.int .i64 (smE d x side)])∧TRes w' w.heap.size v' (smD d x side) (smV d x side)∧Below w.heap.size w w':=by
 obtain ⟨_,_,_,e4,HD⟩:=h1.lst
 cases e4
 obtain ⟨_,_,_,e4,HX⟩:=h2.lst
 cases e4
 have hdl:d.length=n:=HD.out.1
 obtain ⟨O,eO⟩:∃ O,lastO n side=O:=⟨_,rfl⟩
 have rO:RI O:=fun y hy=>by
  rw [← eO] at hy
  unfold lastO butO at hy
  rcases List.mem_append.1 hy with h|h
  ·obtain ⟨k,hk,rfl⟩:=List.mem_map.1 (List.mem_filter.1 h).1
   have:=List.mem_range.1 hk
   omega
  ·simp at h
   rw [h]
   exact hr
 obtain ⟨E,eE⟩:∃ E,turnE d x O=E:=⟨_,rfl⟩
 obtain ⟨DD,eDD⟩:∃ E,turnD d x O=E:=⟨_,rfl⟩
 obtain ⟨VV,eVV⟩:∃ E,turnV d x O=E:=⟨_,rfl⟩
 have cL:Hid (∀ B W,B≤W.heap.size→Calls Tryz.prog 172 #[.int .i64 (n:Int),.int .i64 side] W fun e w'=>∃ u,e = .returned u∧RowO B O u w'∧Below W.heap.size W w'):=fun B W hB=>by
  rw [← eO]
  refine (sideLast_any n (by omega) side hr W).mono ?_
  rintro e w' ⟨u,rfl,h,hb⟩
  obtain ⟨q,m,k,rfl,_⟩:=h.nums.lst
  exact ⟨_,rfl,⟨_,_,_,rfl,h.low hB⟩,hb⟩
 have cT:Hid (∀ B W B' v,B≤W.heap.size→Below w.heap.size w W→RowO B' O v W→Calls Tryz.prog 171 #[.agg #[.slice p n c,.slice p2 n2 c2],v] W fun e w'=>∃ u,e = .returned u∧TupP B DD VV E u w'∧Below W.heap.size W w'):=fun B W B' v hB hW hv=>by
  obtain ⟨q,m,k,rfl,h⟩:=hv
  rw [← eE,← eDD,← eVV]
  refine (tturn_any p p2 q n c n2 c2 m k d x O hd rO W (h1.up hW) (h2.up hW) h.nums).mono ?_
  rintro e w' ⟨u,rfl,h,hb⟩
  exact ⟨_,rfl,⟨u,rfl,(h.low hB).own⟩,hb⟩
 have HE:Hid (lastO n side=O∧turnE d x O=E∧turnD d x O=DD∧turnV d x O=VV∧d.length=n∧RI x∧InR side):=⟨eO,eE,eDD,eVV,hdl,hx,hr⟩
 have HN:Hid (Nums .i64 w (.slice p n c) d∧Nums .i64 w (.slice p2 n2 c2) x):=⟨h1,h2⟩
 have hn10':(n:Int)≤10:=by omega
 have hr':-9223372036854775808≤side∧side≤9223372036854775807:=hr
 obtain ⟨sE,esE⟩:∃ e,smE d x side=e:=⟨_,rfl⟩
 obtain ⟨sD,esD⟩:∃ e,smD d x side=e:=⟨_,rfl⟩
 obtain ⟨sV,esV⟩:∃ e,smV d x side=e:=⟨_,rfl⟩
 rw [esE,esD,esV]
 have HM:Hid (smE d x side=sE∧smD d x side=sD∧smV d x side=sV):=⟨esE,esD,esV⟩
 haveI:Nonempty World:=⟨w⟩
 clear esE esD esV eO eE eDD eVV rO hd hx h1 h2 hdl hr
 go_enter Tryz.func151,Tryz.ntmps151
 go_wp2_with fail
 refine name_world (fun W0 hW0=>?_)
 have B0:Below w.heap.size w W0:=by rw [hW0];go_grown
 have XA:Hid (Cel W0 w.heap.size (.slice p n c) (.slice p2 n2 c2)):=by show Cel _ _ _ _;unfold Cel;rw [hW0];simp [go_sem]
 have XR:Hid (Cel W0 (w.heap.size+1) (.slice none 0 0) (.slice none 0 0)):=by show Cel _ _ _ _;unfold Cel;rw [hW0];simp [go_sem]
 have HB0:Hid (Below w.heap.size w W0):=B0
 clear hW0 B0
 obtain ⟨a0,a1,_,_⟩:=XA.out
 have a9:=cell_lt a0
 refine relE [⟨5,17,RowO W0.heap.size O⟩,⟨6,18,TupP W0.heap.size DD VV E⟩,⟨7,11,TupP W0.heap.size DD VV E⟩,⟨8,19,OwnT W0.heap.size DD VV⟩,⟨10,6,NewC W0.heap.size⟩] 11 66 (by kernel_rfl) rfl rfl 9 _ rfl (by decide) rfl (by kernel_rfl) (by kernel_rfl) (fun _ _ _ _ h=>h) (by rfl) ?_ ?_
 ·intro e he v W W' h hb
  simp only [List.mem_cons,List.not_mem_nil,or_false] at he
  rcases he with rfl|rfl|rfl|rfl|rfl
  ·exact RowO.up h hb
  ·exact TupP.up h hb
  ·exact TupP.up h hb
  ·exact OwnT.up h hb
  ·exact NewC.up h hb
 apply Exists.intro
 refine ⟨?yl1,?wk1,?pk1,?rest1⟩
 case wk1=>
  intro x
  simp only [List.take_succ_cons,List.take_zero]
  iterate 5
   refine relQuiet rfl rfl ?_
   apply Exists.intro
   refine ⟨fun F hF hf K hK=>?_,?_⟩
   ·have hFc:=hF.cell
    have hFf:=hF.frozen
    go_big_quiet_op
    exact hK
   (try simp only [putL])
  refine relTold rfl rfl ?_ ?_
  ·intro F hF hf d
   have hFc:=hF.cell
   have hFf:=hF.frozen
   simp [yieldsR,yieldsUpon,go_sem]
   refine (cL.out W0.heap.size (F d) (hF.below d).size).mono ?_
   rintro e' w8 ⟨v8,rfl,h8,hb8⟩
   exact ⟨_,rfl,h8,hb8⟩
  (try simp only [putL])
  refine relTold rfl rfl ?_ ?_
  ·intro F hF hf d
   have hFc:=hF.cell
   have hFf:=hF.frozen
   have h9:=hf _ List.mem_cons_self (by rfl) d
   simp [yieldsR,yieldsUpon,go_sem]
   refine (cT.out W0.heap.size (F d) _ _ (hF.below d).size (bstep HB0.out (hF.below d)) h9).mono ?_
   rintro e' w8 ⟨v8,rfl,h8,hb8⟩
   exact ⟨_,rfl,h8,hb8⟩
  (try simp only [putL])
  refine relTold rfl rfl ?_ ?_
  ·intro F hF hf d
   have hFc:=hF.cell
   have hFf:=hF.frozen
   have h9:=hf _ (List.mem_cons_of_mem _ List.mem_cons_self) (by rfl) d
   simp [yieldsR,yieldsUpon,go_sem]
   exact ⟨h9,Below.refl _ _⟩
  (try simp only [putL])
  refine relTold rfl rfl ?_ ?_
  ·intro F hF hf d
   have hFc:=hF.cell
   have hFf:=hF.frozen
   have h9:=hf _ (List.mem_cons_of_mem _ (List.mem_cons_of_mem _ List.mem_cons_self)) (by rfl) d
   obtain ⟨u9,e9,o9⟩:=h9
   simp only [] at e9
   simp [yieldsR,yieldsUpon,go_sem,e9]
   exact ⟨o9,Below.refl _ _⟩
  (try simp only [putL])
  refine relQuiet rfl rfl ?_
  apply Exists.intro
  refine ⟨fun F hF hf K hK=>?_,?_⟩
  ·have hFc:=hF.cell
   have hFf:=hF.frozen
   have h9:=hf _ (List.mem_cons_of_mem _ (List.mem_cons_of_mem _ List.mem_cons_self)) (by rfl)
   obtain ⟨u9,e9,_⟩:=h9 w
   simp only [] at e9
   go_big_quiet_op
   exact hK
  (try simp only [putL])
  refine relTold rfl rfl ?_ ?_
  ·intro F hF hf d
   have hFc:=hF.cell
   have hFf:=hF.frozen
   simp [yieldsR,yieldsUpon,go_sem]
   exact ⟨⟨(F d).heap.size,rfl,by show ((F d).heap.push _)[(F d).heap.size]?=_;simp,(hF.below d).size⟩,up_alloc _ _⟩
  (try simp only [putL])
  refine relEnd ?_
  exact rfl
 case pk1=>
  intro x
  simp only [putsK,List.foldl_cons,List.foldl_nil,Act.put,List.setIfInBounds_toArray,List.set_cons_zero,List.set_cons_succ]
 case yl1=>
  intro x hx
  obtain ⟨W9,u9,e9,_⟩:=hx _ (List.mem_cons_of_mem _ (List.mem_cons_of_mem _ List.mem_cons_self)) (by rfl)
  simp only [] at e9
  refine ⟨.int .i64 E,fun t ht=>?_,.inl ⟨by rfl,fun w=>?_⟩⟩
  ·cases ht
   rfl
  ·simp [execOp,Act.eval,e9,go_sem]
 intro z1 xs hBz1 hf
 simp only [List.drop_succ_cons,List.drop_zero]
 have hT1:=hf _ (List.mem_cons_of_mem _ (List.mem_cons_of_mem _ (List.mem_cons_of_mem _ List.mem_cons_self)))
 have hN:=hf _ (List.mem_cons_of_mem _ (List.mem_cons_of_mem _ (List.mem_cons_of_mem _ (List.mem_cons_of_mem _ List.mem_cons_self))))
 obtain ⟨pa1,na1,ca_1,pb1,nb1,cb_1,ev,o1,o2⟩:=hT1
 obtain ⟨g6,eb,hb1,hb2⟩:=hN
 simp only [] at ev eb
 obtain ⟨x5,e5⟩:∃ q,xs 5=q:=⟨_,rfl⟩
 obtain ⟨x6,e6⟩:∃ q,xs 6=q:=⟨_,rfl⟩
 obtain ⟨x7,e7⟩:∃ q,xs 7=q:=⟨_,rfl⟩
 simp only [ev,eb,e5,e6,e7]
 have cbl:=new_cel hb1
 have f1:=o1.off_type hb1 (by decide)
 have f2:=o2.off_type hb1 (by decide)
 have hS:Below W0.heap.size W0 (set2 z1 g6 (.slice pa1 na1 ca_1) (.slice pb1 nb1 cb_1)):=below_set2 hBz1 g6 hb2 _ _
 have HO:Hid (OwnK .i64 3 (set2 z1 g6 (.slice pa1 na1 ca_1) (.slice pb1 nb1 cb_1)) W0.heap.size (.slice pa1 na1 ca_1) DD∧OwnK .i64 61 (set2 z1 g6 (.slice pa1 na1 ca_1) (.slice pb1 nb1 cb_1)) W0.heap.size (.slice pb1 nb1 cb_1) VV∧W0.heap.size≤g6):=⟨o1.stay (Stay.set2 _ _ _) f1,o2.stay (Stay.set2 _ _ _) f2,hb2⟩
 have HC6:Hid (Cel (set2 z1 g6 (.slice pa1 na1 ca_1) (.slice pb1 nb1 cb_1)) g6 (.slice pa1 na1 ca_1) (.slice pb1 nb1 cb_1)):=(new_cel hb1).set _ _
 have HBz:Hid (Below w.heap.size w (set2 z1 g6 (.slice pa1 na1 ca_1) (.slice pb1 nb1 cb_1))∧Below W0.heap.size W0 (set2 z1 g6 (.slice pa1 na1 ca_1) (.slice pb1 nb1 cb_1))):=⟨bstep HB0.out hS,hS⟩
 obtain ⟨c0,c1,c2_,c3_⟩:=cbl
 have cz:=cell_lt c0
 clear hf e5 e6 e7 ev eb f1 f2 o1 o2 cL cT a0 a1 a9 hS hb2 hBz1 hb1
 by_cases hs:smP d x side
 ·obtain ⟨hp,hs0,hs1⟩:=hs
  obtain ⟨a,ga,rfl⟩:=good_itl hp.1
  obtain ⟨s,rfl⟩:=Int.eq_ofNat_of_zero_le hs0
  rw [itl_len] at hs1
  have hsa:s < a.length:=by omega
  have hxa:x.length=prodN a:=by have:=hp.2;rw [ntl_itl] at this;exact this
  have hal:a.length=n:=by have:=HE.out.2.2.2.2.1;rw [itl_len] at this;exact this
  obtain ⟨k1,k2,k3,k4⟩:=sm_turn ga hxa s hsa
  rw [hal,HE.out.1] at k1 k2 k3 k4
  have hE:E=0:=by rw [← HE.out.2.1];exact k1
  rw [HE.out.2.2.1] at k2
  rw [HE.out.2.2.2.1] at k3 k4
  subst hE k2
  have hsm:smP (itl a) x (s:Int):=⟨hp,hs0,by rw [itl_len];exact hs1⟩
  have hv1:sE=0:=by rw [← HM.out.1];exact if_pos hsm
  have hv2:sD=itl (lessN a s):=by rw [← HM.out.2.1];unfold smD;rw [if_pos hsm,ntl_itl];rfl
  have hv3:sV=sumV a s x:=by rw [← HM.out.2.2];unfold smV;rw [if_pos hsm,ntl_itl];rfl
  subst hv1 hv2
  obtain ⟨C,eC⟩:∃ C,a.getD s 0=C:=⟨_,rfl⟩
  obtain ⟨N,eN⟩:∃ N,prodN (lessN a s)=N:=⟨_,rfl⟩
  have hNC:N*C=prodN a:=by rw [← eN,← eC];exact prodN_less a s hsa
  have hC1:1≤C:=by rw [← eC];exact side_one ga s hsa
  have hN1:1≤N:=by rw [← eN];exact (good_less ga s hsa).pos
  have hN2:N≤4096:=by rw [← eN];exact (good_less ga s hsa).2.2
  have hC2:C≤4096:=by have:=Nat.mul_le_mul_right C hN1;rw [hNC,Nat.one_mul] at this;have:=ga.2.2;omega
  have hn2:n2=N*C:=by rw [hNC,← hxa];exact HX.out.1.symm
  have hQ:(n2:Int) / (C:Int)=(N:Int):=by
   rw [hn2]
   push_cast
   exact Int.mul_ediv_cancel _ (by omega)
  rw [eC,eN] at k4
  rw [eC] at HO
  have HS:Hid (sV=sumV a s x∧sV.length=N∧VV.length=N*C∧(∀ i k,i < N→k < C→VV.getD (i*C+k) 0=x.getD ((i / prodN (a.drop (s+1))*C+k)*prodN (a.drop (s+1))+i % prodN (a.drop (s+1))) 0)∧a.getD s 0=C∧prodN (lessN a s)=N∧RI VV∧a.length=n∧s < a.length∧N*C≤4096):=by
   refine ⟨hv3,by rw [hv3,sumV_len,eN],by rw [k3,hNC],k4,eC,eN,fun y hy=>?_,hal,hsa,by rw [hNC];exact ga.2.2⟩
   rw [← HE.out.2.2.2.1] at hy
   unfold turnV at hy
   split at hy
   ·obtain ⟨i,_,rfl⟩:=List.mem_map.1 hy
    exact getD_inR HE.out.2.2.2.2.2.1 _
   ·cases hy
  obtain ⟨q,o,rfl,hc0⟩:=HD.out.2 s (by omega)
  rw [itl_getD,eC] at hc0
  have hsn:(s:Int) < (n:Int):=by omega
  have hC':1≤(C:Int)∧(C:Int)≤4096:=by omega
  have hN':1≤(N:Int)∧(N:Int)≤4096:=by omega
  have hn2':(n2:Int)≤4096:=by have:=HS.out.2.2.2.2.2.2.2.2.2;omega
  have hn1':1≤(n:Int):=by omega
  obtain ⟨n',en'⟩:∃ n',n=n'+1:=⟨n - 1,by omega⟩
  have en:(n:Int) - 1=(n':Int):=by omega
  have Hn:Hid (n=n'+1):=en'
  clear hp hs0 hs1 hxa hal k1 k3 k4 hsm hv3 eC eN hNC hC1 hC2 hN1 hN2 hn2 hsa ga en'
  obtain ⟨Wz,hWz⟩:∃ Wz,(set2 z1 g6 (.slice pa1 na1 ca_1) (.slice pb1 nb1 cb_1))=Wz:=⟨_,rfl⟩
  rw [hWz] at HO HBz HC6
  obtain ⟨q0,q1,_,_⟩:=HC6.out
  obtain ⟨a0,a1,_,_⟩:=XA.out.up HBz.out.2
  have q9:=cell_lt q0
  have a9:=cell_lt a0
  have ua:=cell_low hc0 HBz.out.1
  have ua9:=cell_lt ua
  go_wp2_with (at_make;refine wpList_makeK fixT (by decide) _ rfl (.tmp 34) (.tmp 34) rfl .i64 .i64 N N N rfl rfl rfl rfl (by omega) Wz.heap.size Wz (Nat.le_refl _) (Below.refl _ _) ?_;intro w4 HO4 B4 B4';clear B4')
  clear q0 q1 a0 a1 q9 a9 ua ua9 hWz c0 c1 c2_ c3_ cz
  obtain ⟨g,hg⟩:∃ g,Wz.heap.size=g:=⟨_,rfl⟩
  rw [hg] at HO4 ⊢
  have HB4:Hid (Below w.heap.size w w4∧Below W0.heap.size W0 w4∧Below Wz.heap.size Wz w4):=⟨bstep HBz.out.1 B4,bstep HBz.out.2 B4,B4⟩
  have Hg:Hid (Wz.heap.size=g∧g6 < g∧W0.heap.size≤g∧w.heap.size+1 < W0.heap.size):=⟨hg,by rw [← hg];exact cell_lt HC6.out.1,by rw [← hg];exact HBz.out.2.size,cell_lt XR.out.1⟩
  have HO5:Hid (OwnK .i64 61 w4 g (.slice (some ⟨g,0,none⟩) N N) (rowF sV 0)):=by
   show OwnK _ _ _ _ _ _
   rw [rowF_zero,HS.out.2.1]
   exact HO4.out
  clear HO4 B4 hg
  go_loopg [38] N (fun gg i wr=>∃ (k:Nat),k≤N∧gg=N - k∧i = .int .i64 (k:Int)∧Hid (OwnK .i64 61 wr g (.slice (some ⟨g,0,none⟩) N N) (rowF sV k))∧Hid (Below w.heap.size w wr∧Stay g w4 wr))
  case atStart=>exact ⟨0,by omega,by omega,by first|rfl|simp,HO5,HB4.out.1,Stay.refl _ _⟩
  case round=>
   obtain ⟨k,hk,hgg,rfl,HRk,hBS⟩:=hrel
   obtain ⟨R1,hR1⟩:∃ R1:World,R1=wr:=⟨_,rfl⟩
   subst hR1
   have xA:Cel R1 w.heap.size (.slice (some ⟨q,o,none⟩) n c) (.slice p2 n2 c2):=(XA.out.up HB4.out.2.1).stay hBS.out.2 (by have:=Hg.out;omega)
   have xR:Cel R1 (w.heap.size+1) (.slice none 0 0) (.slice none 0 0):=(XR.out.up HB4.out.2.1).stay hBS.out.2 (by have:=Hg.out;omega)
   have x6:Cel R1 g6 (.slice pa1 na1 ca_1) (.slice pb1 nb1 cb_1):=(HC6.out.up HB4.out.2.2).stay hBS.out.2 (by have:=Hg.out;omega)
   have o7:OwnK .i64 61 R1 W0.heap.size (.slice pb1 nb1 cb_1) VV:=(HO.out.2.1.up HB4.out.2.2).stay hBS.out.2 (HO.out.2.1.off_new (by have:=Hg.out;omega))
   have o6:OwnK .i64 3 R1 W0.heap.size (.slice pa1 na1 ca_1) (itl (lessN a s++[C])):=(HO.out.1.up HB4.out.2.2).stay hBS.out.2 (HO.out.1.off_new (by have:=Hg.out;omega))
   by_cases hkn:k < N
   ·have hk':(k:Int) < (N:Int):=by omega
    obtain ⟨Z,eZ⟩:=row_is pb1 k C cb_1
    obtain ⟨C1,eC1⟩:∃ C1,cb_1 - k*C=C1:=⟨_,rfl⟩
    rw [eC1] at eZ
    have nV:∀ W,Below R1.heap.size R1 W→Nums .i64 W (.slice Z C C1) ((List.range C).map fun j=>VV.getD (k*C+j) 0):=fun W hW=>by
     have:=row_nums N C k HS.out.2.2.1 hkn o7.cap (o7.up hW).nums
     rw [eZ] at this
     exact this
    have rV:RI ((List.range C).map fun j=>VV.getD (k*C+j) 0):=fun y hy=>by
     obtain ⟨i,_,rfl⟩:=List.mem_map.1 hy
     exact getD_inR HS.out.2.2.2.2.2.2.1 _
    have wT:=total_in rV (by rw [List.length_map,List.length_range];omega)
    have eT:hold (totalI ((List.range C).map fun j=>VV.getD (k*C+j) 0))=sV.getD k 0:=by
     rw [HS.out.1,sumV_at a s x k (by rw [HS.out.2.2.2.2.2.1];exact hkn),HS.out.2.2.2.2.1]
     unfold sumN totalI
     rw [List.length_map,List.length_range]
     congr 1
     refine sumI_congr C fun j hj=>?_
     rw [getD_map_range _ _ _ _ hj,HS.out.2.2.2.1 k j hkn hj]
    have cTo:Hid (∀ W,Below R1.heap.size R1 W→Calls Tryz.prog 174 #[.slice Z C C1] W fun e w'=>e = .returned (wd (totalI ((List.range C).map fun j=>VV.getD (k*C+j) 0)))∧Below W.heap.size W w'):=fun W hW=>total_any Z C C1 _ rV (by omega) W (nV W hW)
    have cFx:∀ W,Calls Tryz.prog 173 #[wd (totalI ((List.range C).map fun j=>VV.getD (k*C+j) 0))] W fun e w'=>e = .returned (.int .i64 (hold (totalI ((List.range C).map fun j=>VV.getD (k*C+j) 0))))∧Below W.heap.size W w':=fun W=>fix_any _ wT W
    rw [eT] at cFx
    obtain ⟨th,tl,et,t1,t2,t3,t4,Ht⟩:=words wT
    rw [et] at cTo cFx
    obtain ⟨Y,eY⟩:∃ Y,sV.getD k 0=Y:=⟨_,rfl⟩
    rw [eY] at cFx
    have HY:Hid (sV.getD k 0=Y):=eY
    have hA0:k*C+C≤N*C:=by have:=Nat.mul_le_mul_right C (show k+1≤N by omega);rw [Nat.add_mul,Nat.one_mul] at this;exact this
    obtain ⟨A,eA⟩:∃ A,k*C=A:=⟨_,rfl⟩
    obtain ⟨B,eB⟩:∃ B,(k+1)*C=B:=⟨_,rfl⟩
    have eA':(k:Int)*(C:Int)=(A:Int):=by rw [← eA];push_cast;rfl
    have eB':((k:Int)+1)*(C:Int)=(B:Int):=by rw [← eB];push_cast;rfl
    have hAB:A+C=B:=by rw [← eA,← eB,Nat.add_mul,Nat.one_mul]
    have hcap:=o7.cap
    have hlen:VV.length=nb1:=by obtain ⟨_,_,_,e4,H⟩:=o7.nums.lst;cases e4;exact H.out.1
    have hBb:B≤4096∧B≤nb1:=by
     have h1:=HS.out.2.2.2.2.2.2.2.2.2
     have h2:=HS.out.2.2.1
     rw [eA] at hA0
     omega
    rw [eA,eB] at eZ
    have kc:=fun W=>cutF_lh pb1 nb1 cb_1 A B (by omega) (by omega) W
    rw [eZ] at kc
    have hBb':(B:Int)≤4096∧0≤(A:Int)∧(A:Int)≤4096:=by omega
    obtain ⟨s0,s1,_,_⟩:=x6
    have s9:=cell_lt s0
    have HO7:=HRk
    clear eT et wT rV nV eZ eC1 eY hA0 eA eB hcap hlen hBb o7 o6 xA xR
    go_wp2_with fail
    refine (cTo.out R1 (Below.refl _ _)).mono ?_
    rintro e w6 ⟨rfl,hB6⟩
    have HB6:Hid (Below R1.heap.size R1 w6):=hB6
    clear hB6 cTo
    go_wp2_with fail
    refine (cFx w6).mono ?_
    rintro e w7 ⟨rfl,hB7⟩
    have HB7:Below R1.heap.size R1 w7:=bstep HB6.out hB7
    have HR2:=HRk.out.up HB7
    obtain ⟨hown,hfz⟩:=HR2.cell (by rw [rowF_len];exact HS.out.2.1) k hkn
    have lt2:=cell_lt hown
    have H5:Hid (OwnK .i64 61 (w7.setCell ⟨g,k,none⟩ (.int .i64 Y)) g (.slice (some ⟨g,0,none⟩) N N) (rowF sV (k+1))):=by
     have:=HR2.store (by rw [rowF_len];exact HS.out.2.1) k Y
     rw [← HY.out,rowF_set sV k (by rw [HS.out.2.1];exact hkn)] at this
     rw [← HY.out]
     exact this
    have hgw:w.heap.size≤g:=by have:=Hg.out;omega
    have H6:Hid (Below w.heap.size w (w7.setCell ⟨g,k,none⟩ (.int .i64 Y))∧Stay g w4 (w7.setCell ⟨g,k,none⟩ (.int .i64 Y))):=⟨(bstep hBS.out.1 HB7).setCell (p:=⟨g,k,none⟩) hgw _,(hBS.out.2.up HB7).set _ _⟩
    clear hB7 HB7 HR2 cFx s0 s1 s9
    go_wp2
    go_roundg (N - (k+1))
    case measure=>omega
    case rel=>exact ⟨k+1,by omega,rfl,by first|rfl|simp,H5,H6⟩
   ·obtain rfl:k=N:=by omega
    have hfin:=HRk.out
    rw [← HS.out.2.1,rowF_full,HS.out.2.1] at hfin
    have hlen:(itl (lessN a s++[C])).length=na1:=by obtain ⟨_,_,_,e4,H⟩:=o6.nums.lst;cases e4;exact H.out.1
    have hln:(lessN a s).length=n':=by
     have h1:=HS.out.2.2.2.2.2.2.2.1
     have h2:=HS.out.2.2.2.2.2.2.2.2.1
     have h3:=Hn.out
     simp only [lessN,List.length_append,List.length_take,List.length_drop]
     omega
    rw [itl_len,List.length_append,List.length_singleton,hln] at hlen
    obtain ⟨Z,eZ⟩:=sliced_is pa1 0 n' ca_1
    have kc:=fun W=>cutI_h pa1 na1 ca_1 n' (by have:=o6.cap;omega) W
    rw [eZ] at kc
    rw [Nat.sub_zero,Nat.sub_zero] at kc
    have oD:OwnK .i64 3 R1 W0.heap.size (.slice Z n' ca_1) (itl (lessN a s)):=by
     have:=o6.cut n' (show n'≤na1 by omega)
     rw [eZ,Nat.sub_zero,Nat.sub_zero] at this
     have e:(itl (lessN a s++[C])).take n'=itl (lessN a s):=by
      unfold itl
      rw [List.map_append,List.take_left' (by rw [List.length_map];exact hln)]
     rw [e] at this
     exact this
    have HF:Hid (TRes (set2 R1 (w.heap.size+1) (.slice Z n' ca_1) (.slice (some ⟨g,0,none⟩) k k)) w.heap.size (.agg #[.slice Z n' ca_1,.slice (some ⟨g,0,none⟩) k k]) (itl (lessN a s)) sV∧Below w.heap.size w (set2 R1 (w.heap.size+1) (.slice Z n' ca_1) (.slice (some ⟨g,0,none⟩) k k))):=
     ⟨⟨_,_,rfl,(oD.stay (Stay.set2 _ _ _) (oD.off (by have:=Hg.out;omega))).low (by have:=Hg.out;omega),(hfin.stay (Stay.set2 _ _ _) (hfin.off (by have:=Hg.out;omega))).low (by have:=Hg.out;omega)⟩,below_cell hBS.out.1 _ (by omega) _ _⟩
    have cf:=xR.set (.slice Z n' ca_1) (.slice (some ⟨g,0,none⟩) k k)
    obtain ⟨a0,a1,_,_⟩:=xA
    obtain ⟨s0,s1,_,_⟩:=x6
    obtain ⟨r0,r1,r2,r3⟩:=xR
    obtain ⟨y0,y1,_,_⟩:=cf
    have a9:=cell_lt a0
    have s9:=cell_lt s0
    clear hfin o6 o7 oD eZ hlen hln
    go_wp2
    exact bodyPost_ret (v:=.tuple #[.agg #[.slice Z n' ca_1,.slice (some ⟨g,0,none⟩) k k],.int .i64 0]) (by simp [results,Tryz.results151,go_sem,y0,y1]) rfl ⟨_,rfl,HF.out⟩
 ·obtain ⟨k1,k2,k3,k4,k5,k6⟩:=sm_none hs
  rw [HE.out.2.2.2.2.1,HE.out.1] at k4 k5 k6
  have hE:E=1:=by rw [← HE.out.2.1];exact k4
  have hv1:sE=1:=by rw [← HM.out.1];exact k1
  have hv2:sD = []:=by rw [← HM.out.2.1];exact k2
  have hv3:sV = []:=by rw [← HM.out.2.2];exact k3
  subst hE hv1 hv2 hv3
  clear k1 k2 k3 k4 k5 k6 hs
  have xr:=XR.out.up HBz.out.2
  have BF:=below_cell HBz.out.1 (w.heap.size+1) (by omega) (.slice none 0 0) (.slice none 0 0)
  have cf:=xr.set (.slice none 0 0) (.slice none 0 0)
  obtain ⟨r0,r1,r2,r3⟩:=xr
  obtain ⟨y0,y1,_,_⟩:=cf
  go_wp2
  exact bodyPost_ret (v:=.tuple #[.agg #[.slice none 0 0,.slice none 0 0],.int .i64 1]) (by simp [results,Tryz.results151,go_sem,y0,y1]) rfl ⟨_,rfl,TRes.none _ _,BF⟩
end Go.Proofs.YtiampagapgjedaaGreatDoor.Wd
