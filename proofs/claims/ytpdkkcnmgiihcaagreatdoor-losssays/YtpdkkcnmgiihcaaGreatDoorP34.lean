/- The reference's One. -/
import Derived.Test.YtpdkkcnmgiihcaaGreatDoorP25
import Derived.Test.YtpdkkcnmgiihcaaGreatDoorP20
import Derived.Test.YtpdkkcnmgiihcaaGreatDoorP30
import Derived.Test.YtpdkkcnmgiihcaaGreatDoorP31
import Derived.Test.YtpdkkcnmgiihcaaGreatDoorP33
set_option linter.unusedVariables false
set_option linter.unusedSimpArgs false
set_option maxHeartbeats 16000000
set_option maxRecDepth 16000
namespace Go.Proofs.YtpdkkcnmgiihcaaGreatDoor.Wd
open Go.RowKit Fx
theorem rone_l (B tb:Nat) (ns:List Nd) (i:Nat) (op b k:Int) (D X:List Int) (ai:Nat) (hnd:ns[i]?=some ⟨op,(ai:Int),b,k,D,X⟩) (hai0:ai < i) (nda:Nd) (hk:InR k) (hnda:ns[ai]?=some nda) (hga:TnsG nda.D nda.X) (dB_ xB_:List Int) (hRB:RI dB_∧RI xB_) (h2:(twoP op∧∃ (bi:Nat) (ndb:Nd),bi < i∧b=(bi:Int)∧ns[bi]?=some ndb∧dB_=ndb.D∧xB_=ndb.X)∨(¬ twoP op∧b = -1∧dB_ = []∧xB_ = [])) (ho1:2≤op∧op≤14) (HDN:Hid (op=2∨op=3∨op=4∨op=9∨op=10∨op=11)) (p p2:Option Addr) (m c m2 c2:Nat) (g:Ten) (hg:TenG g) (eg:g.1=D) (ok:OkP op k (nda.D,nda.X) (dB_,xB_) g) (w:World) (hT:Tap 41 47 w B tb ns) (g1:Nums .i64 w (.slice p m c) g.1) (g2:Nums .i64 w (.slice p2 m2 c2) g.2):
  Calls Tryz.prog 39 #[.pointer (some ⟨tb,0,none⟩),.int .i64 (i:Int),.agg #[.slice p m c,.slice p2 m2 c2]] w fun e w'=>∃ u v,e = .returned (.tuple #[u,v,.int .i64 0])∧TRes w' w.heap.size u (onA op k (nda.D,nda.X) (dB_,xB_) g).1 (onA op k (nda.D,nda.X) (dB_,xB_) g).2∧TRes w' w.heap.size v (onB op k (nda.D,nda.X) (dB_,xB_) g).1 (onB op k (nda.D,nda.X) (dB_,xB_) g).2∧Below w.heap.size w w':=by
 have hTT:Hid (Tap 41 47 w B tb ns):=hT
 obtain ⟨pL,cL,xs0,hv,ho,hn0,hnc⟩:=hT.head
 obtain ⟨N,eN⟩:∃ N,ns.length=N:=⟨_,rfl⟩
 rw [eN] at hv ho hnc
 have hcell:=(head_cell hv).1
 have hz:=heap_lt hv
 have hi:i < N:=by rw [← eN];exact (List.getElem?_eq_some_iff.1 hnd).1
 obtain ⟨q,nd',sN,tN,eq,hx,d0,d1,d2,d3,d4,d5,hsN,htN⟩:=node_cells ho hn0 eN i hi
 rw [hnd] at hx
 cases hx
 obtain ⟨pN,nN,cN,rfl⟩:=hsN.form_
 obtain ⟨qN,mN,eN',rfl⟩:=htN.form_
 have hai:ai < N:=by omega
 obtain ⟨q',nda',sA_,tA_,eq',hx,_,_,_,_,a4,a5,hsA,htA⟩:=node_cells ho hn0 eN ai hai
 rw [hnda] at hx
 cases hx
 obtain ⟨pA,nA,cA,rfl⟩:=hsA.form_
 obtain ⟨qA,mA,eA,rfl⟩:=htA.form_
 rw [eq] at eq'
 cases eq'
 subst eq
 have HA:Hid (Nums .i64 w (.slice pA nA cA) nda.D∧Nums .i64 w (.slice qA mA eA) nda.X∧nA≤cA):=⟨hsA.nums,htA.nums,hsA.cap⟩
 have HG:Hid (TenG g):=hg
 have HK:Hid (InR k):=hk
 have HOK:Hid (OkP op k (nda.D,nda.X) (dB_,xB_) g):=ok
 have HGA:Hid (goodN (ntl nda.D)):=hga.1.1
 have HRB:Hid (RI dB_):=hRB.1
 have HRX:Hid (RI xB_):=hRB.2
 have HRA:Hid (RI nda.D∧RI nda.X):=⟨hga.2.1,hga.2.2⟩
 have HGn:Hid (Nums .i64 w (.slice p m c) g.1∧Nums .i64 w (.slice p2 m2 c2) g.2):=⟨g1,g2⟩
 have cI:Hid (∀ W,Below w.heap.size w W→Calls Tryz.prog 33 #[.agg #[.slice p m c,.slice p2 m2 c2]] W fun e w'=>e = .returned (.bool true)∧Below W.heap.size W w'):=fun W hW=>by
  have:=ris_any _ _ g.1 g.2 hg.2.1 W (g1.up hW) (g2.up hW)
  rw [decide_eq_true hg.1] at this
  exact this
 have cS:Hid (∀ W,Below w.heap.size w W→Calls Tryz.prog 36 #[.slice p m c,.slice pN nN cN] W fun e w'=>e = .returned (.bool true)∧Below W.heap.size W w'):=fun W hW=>by
  refine (rsame_any _ _ g.1 D (by have h4:=hg.1.1.1;simp [ntl] at h4;omega) W (g1.up hW) (hsN.nums.up hW)).mono ?_
  rintro e w' ⟨rfl,n,rfl⟩
  exact ⟨by rw [decide_eq_true eg],below_drew (Below.refl _ _) _⟩
 have H2:Hid ((twoP op∧∃ (bi:Nat) (pB:Option Addr) (nB cB:Nat) (qB:Option Addr) (mB eB:Nat),b=(bi:Int)∧bi < N∧w.cell? ⟨q,bi*6+4,none⟩=some (.slice pB nB cB)∧w.cell? ⟨q,bi*6+5,none⟩=some (.slice qB mB eB)∧Nums .i64 w (.slice pB nB cB) dB_∧Nums .i64 w (.slice qB mB eB) xB_)∨(¬ twoP op∧b = -1∧dB_ = []∧xB_ = [])):=by
  rcases h2 with ⟨ht,bi,ndb,hbi,eb,hndb,rfl,rfl⟩|h
  ·obtain ⟨q',ndb',sB_,tB_,eq',hx,_,_,_,_,b4,b5,hsB,htB⟩:=node_cells ho hn0 eN bi (by omega)
   rw [hndb] at hx
   cases hx
   cases eq'
   obtain ⟨pB,nB,cB,rfl⟩:=hsB.form_
   obtain ⟨qB,mB,eB,rfl⟩:=htB.form_
   exact .inl ⟨ht,bi,pB,nB,cB,qB,mB,eB,eb,by omega,b4,b5,hsB.nums,htB.nums⟩
  ·exact .inr h
 have o1:decide ((i:Int) < 0)=false:=decide_eq_false (by omega)
 have o2:decide ((N:Int)≤(i:Int))=false:=decide_eq_false (by omega)
 have o3:decide (N≤i)=false:=decide_eq_false (by omega)
 have o4:(i:Int) < (N:Int):=by omega
 have o5:(ai:Int) < (N:Int):=by omega
 have o6:(op==1)=false:=by simp;omega
 haveI:Nonempty World:=⟨w⟩
 clear ok hv ho hn0 hnc hT g1 g2 hg eg hsN htN hsA htA hnd hnda h2
 go_enter Tryz.func39,Tryz.ntmps39
 go_wp2_with fail
 generalize hW0:World.alloc _ _=W0
 have HB0:=hidB (w:=w) hW0 (by go_grown)
 have XG:Hid (Cel W0 w.heap.size (.slice p m c) (.slice p2 m2 c2)):=celW hW0 (by simp [go_sem])
 have X6:Hid (Cel W0 (w.heap.size+1) (.slice none 0 0) (.slice none 0 0)):=celW hW0 (by simp [go_sem])
 have X7:Hid (Cel W0 (w.heap.size+2) (.slice none 0 0) (.slice none 0 0)):=celW hW0 (by simp [go_sem])
 have X9:Hid (Cel W0 (w.heap.size+3) (.slice none 0 0) (.slice none 0 0)):=celW hW0 (by simp [go_sem])
 clear hW0
 have t1:=cell_low hcell HB0.out
 have t2:=cell_low d4 HB0.out
 have z1:=cell_lt t1
 have z2:=cell_lt t2
 obtain ⟨x0,x1,_,_⟩:=XG.out
 have z3:=cell_lt x0
 refine rel [] 31 374 (by kernel_rfl) rfl rfl (by kernel_rfl) (by rfl) ?_ ?_
 ·intro e he
  simp at he
 apply Exists.intro
 refine ⟨fun x=>?_,?_,?_⟩
 ·simp only [List.take_succ_cons,List.take_zero]
  iterate 13
   refine relQuiet rfl rfl ?_
   apply Exists.intro
   refine ⟨fun F hF hf K hK=>?_,?_⟩
   ·have hFc:=hF.cell
    have hFf:=hF.frozen
    go_big_quiet_op
    first|exact hK|(apply Exists.intro;refine ⟨fun _=>?_,?_⟩;(· fail);exact hK)
   (try simp only [Act.put,List.setIfInBounds_toArray,List.set_cons_zero,List.set_cons_succ])
  refine relQuiet rfl rfl ?_
  apply Exists.intro
  refine ⟨fun F hF hf K hK=>?_,?_⟩
  ·have hFc:=hF.cell
   have hFf:=hF.frozen
   go_big_quiet_op
   first|exact hK|(apply Exists.intro;refine ⟨fun _=>?_,?_⟩;(· exact hF.call (cI.out _ (bstep HB0.out (hF.below _))));exact hK)
  iterate 14
   (try simp only [Act.put,List.setIfInBounds_toArray,List.set_cons_zero,List.set_cons_succ])
   refine relQuiet rfl rfl ?_
   apply Exists.intro
   refine ⟨fun F hF hf K hK=>?_,?_⟩
   ·have hFc:=hF.cell
    have hFf:=hF.frozen
    go_big_quiet_op
    first|exact hK|(apply Exists.intro;refine ⟨fun _=>?_,?_⟩;(· fail);exact hK)
  (try simp only [Act.put,List.setIfInBounds_toArray,List.set_cons_zero,List.set_cons_succ])
  refine relQuiet rfl rfl ?_
  apply Exists.intro
  refine ⟨fun F hF hf K hK=>?_,?_⟩
  ·have hFc:=hF.cell
   have hFf:=hF.frozen
   go_big_quiet_op
   first|exact hK|(apply Exists.intro;refine ⟨fun _=>?_,?_⟩;(· exact hF.call (cS.out _ (bstep HB0.out (hF.below _))));exact hK)
  iterate 2
   (try simp only [Act.put,List.setIfInBounds_toArray,List.set_cons_zero,List.set_cons_succ])
   refine relQuiet rfl rfl ?_
   apply Exists.intro
   refine ⟨fun F hF hf K hK=>?_,?_⟩
   ·have hFc:=hF.cell
    have hFf:=hF.frozen
    go_big_quiet_op
    first|exact hK|(apply Exists.intro;refine ⟨fun _=>?_,?_⟩;(· fail);exact hK)
  (try simp only [Act.put,List.setIfInBounds_toArray,List.set_cons_zero,List.set_cons_succ])
  refine relEnd ?_
  exact rfl
 ·intro x
  simp only [putsK,List.foldl_cons,List.foldl_nil,Act.put,List.setIfInBounds_toArray,List.set_cons_zero,List.set_cons_succ]
 ·intro w1 xs hB1 hf
  simp only [List.drop_succ_cons,List.drop_zero]
  clear hf xs t1 t2 z1 z2 z3 x0 x1
  have HB1:Hid (Below w.heap.size w w1∧Below W0.heap.size W0 w1):=⟨bstep HB0.out hB1,hB1⟩
  clear hB1
  have t1:=cell_low hcell HB1.out.1
  have u0:=cell_low d0 HB1.out.1
  have u1:=cell_low d1 HB1.out.1
  have u2:=cell_low d2 HB1.out.1
  have u3:=cell_low d3 HB1.out.1
  have u4:=cell_low d4 HB1.out.1
  have u5:=cell_low d5 HB1.out.1
  have v4:=cell_low a4 HB1.out.1
  have v5:=cell_low a5 HB1.out.1
  obtain ⟨n0,n1,_,_⟩:=X9.out.up HB1.out.2
  have z1:=cell_lt t1
  have z2:=cell_lt u4
  have z3:=cell_lt n0
  go_wp2_with fail
  generalize hW2:World.alloc _ _=W2
  have hL:Below w1.heap.size w1 W2:=by rw [← hW2];exact up_alloc w1 _
  have HN2:W2.heap[w1.heap.size]?=some (.cells #[.int .i64 op,.int .i64 (ai:Int),.int .i64 b,.int .i64 k,.slice pN nN cN,.slice qN mN eN'] 47 (0,0)):=by
   rw [← hW2]
   exact heap_alloc_new _ _
  have HB2:Hid (Below w.heap.size w W2∧Below W0.heap.size W0 W2):=⟨bstep HB1.out.1 hL,bstep HB1.out.2 hL⟩
  obtain ⟨nb,enb⟩:∃ nb,w1.heap.size=nb:=⟨_,rfl⟩
  have hnb0:W0.heap.size≤nb:=by rw [← enb];exact HB1.out.2.size
  rw [enb] at HN2
  rw [enb]
  clear hW2 hL HB1 t1 u0 u1 u2 u3 u4 u5 v4 v5 n0 n1 z1 z2 z3 enb
  obtain ⟨⟨k0,k1,k2,k3,_,_⟩,_⟩:=box6 HN2
  have t1:=cell_low hcell HB2.out.1
  have v4:=cell_low a4 HB2.out.1
  have v5:=cell_low a5 HB2.out.1
  have z1:=cell_lt t1
  have z2:=cell_lt v4
  have z3:=heap_lt HN2
  go_region
  generalize hW3:World.drew _=W3
  have hL:Below W2.heap.size W2 W3:=by rw [← hW3];exact below_drew1 (up_alloc W2 _)
  have HA3:W3.heap[W2.heap.size]?=some (.cells #[.slice pA nA cA,.slice qA mA eA] 31 (0,0)):=by
   rw [← hW3]
   exact heap_alloc_new _ _
  have HB3:Hid (Below w.heap.size w W3∧Below W0.heap.size W0 W3):=⟨bstep HB2.out.1 hL,bstep HB2.out.2 hL⟩
  have HN3:W3.heap[nb]?=some (.cells #[.int .i64 op,.int .i64 (ai:Int),.int .i64 b,.int .i64 k,.slice pN nN cN,.slice qN mN eN'] 47 (0,0)):=by
   rw [hL.block _ (heap_lt HN2)]
   exact HN2
  obtain ⟨ab,eab⟩:∃ z,W2.heap.size=z:=⟨_,rfl⟩
  have hnab:nb < ab:=by rw [← eab];exact heap_lt HN2
  rw [eab] at HA3
  rw [eab]
  clear hW3 hL HB2 HN2 eab t1 v4 v5 z1 z2 z3 k0 k1 k2 k3
  obtain ⟨n0,n1,_,_⟩:=X9.out.up HB3.out.2
  obtain ⟨⟨k0,k1,k2,k3,_,_⟩,_⟩:=box6 HN3
  have z1:=heap_lt HN3
  have z2:=cell_lt n0
  have z3:=heap_lt HA3
  have t1:=cell_low hcell HB3.out.1
  have z4:=cell_lt t1
  rcases H2.out with ⟨ht,bi,pB,nB,cB,qB,mB,eB,eb,hbi,b4,b5,nB1,nB2⟩|⟨ht,eb,ed,ex⟩
  ·subst eb
   have HBn:Hid (Nums .i64 w (.slice pB nB cB) dB_∧Nums .i64 w (.slice qB mB eB) xB_):=⟨nB1,nB2⟩
   have o7:(bi:Int) < (N:Int):=by omega
   have c4:=cell_low b4 HB3.out.1
   have c5:=cell_low b5 HB3.out.1
   have z5:=cell_lt c4
   clear nB1 nB2 H2
   go_wp2_with fail
   go_region
   generalize hW4:World.drew _=W4
   have hL:Below W3.heap.size W3 W4:=by rw [← hW4];exact below_drew1 (up_alloc W3 _)
   have HB4:Hid (Below w.heap.size w W4∧Below W0.heap.size W0 W4):=⟨bstep HB3.out.1 hL,bstep HB3.out.2 hL⟩
   have XB4:Hid (Cel W4 W3.heap.size (.slice pB nB cB) (.slice qB mB eB)):=by
    show Cel _ _ _ _
    rw [← hW4]
    exact new_cel (heap_alloc_new W3 _)
   have XA4:Hid (Cel W4 ab (.slice pA nA cA) (.slice qA mA eA)):=(new_cel HA3).up hL
   have XG4:Hid (Cel W4 w.heap.size (.slice p m c) (.slice p2 m2 c2)):=XG.out.up HB4.out.2
   have X64:Hid (Cel W4 (w.heap.size+1) (.slice none 0 0) (.slice none 0 0)):=X6.out.up HB4.out.2
   have X74:Hid (Cel W4 (w.heap.size+2) (.slice none 0 0) (.slice none 0 0)):=X7.out.up HB4.out.2
   have h6B:=cell_lt X64.out.1
   have HN4:W4.heap[nb]?=some (.cells #[.int .i64 op,.int .i64 (ai:Int),.int .i64 (bi:Int),.int .i64 k,.slice pN nN cN,.slice qN mN eN'] 47 (0,0)):=by
    rw [hL.block _ (heap_lt HN3)]
    exact HN3
   have hob:=cell_lt X9.out.1
   have hn0:W0.heap.size≤nb:=hnb0
   have ha6:ab≠w.heap.size+1:=by omega
   obtain ⟨bb,ebb⟩:∃ z,W3.heap.size=z:=⟨_,rfl⟩
   have hbb:ab < bb:=by rw [← ebb];exact heap_lt HA3
   rw [ebb] at XB4
   rw [ebb]
   clear hW4 hL HB3 HN3 HA3 n0 n1 k0 k1 k2 k3 z1 z2 z3 z4 z5 t1 c4 c5 ebb
   obtain ⟨⟨k0,k1,k2,k3,_,_⟩,_⟩:=box6 HN4
   have z1:=heap_lt HN4
   obtain ⟨x0,x1,_,_⟩:=XG4.out
   obtain ⟨y0,y1,_,_⟩:=XA4.out
   obtain ⟨v0,v1,_,_⟩:=XB4.out
   have hop:op=2∨op=3∨op=4∨op=6∨op=12:=ht
   rcases hop with rfl|rfl|rfl|rfl|rfl
   ·go_wp2_with fail
    refine from_region (by kernel_rfl) ?_
    refine seg (Ret6 w W4 (w.heap.size+1) (fold2 g nda.D).1 (fold2 g nda.D).2) (Stay (w.heap.size+1)) 8 [⟨3,128,TRs W4.heap.size (fold2 g nda.D).1 (fold2 g nda.D).2⟩,⟨7,132,TRs W4.heap.size (fold2 g dB_).1 (fold2 g dB_).2⟩,⟨8,374,fun _ _=>True⟩] 0 9 374 rfl rfl (by kernel_rfl) (by rfl) ?_ ?_ ?_ ?_ ?_ ?_
    ·exact fun f W W' h hb=>Ret6.up h hb
    ·exact Ret6.new HB4.out.1 X64.out (below_drew1 (Below.refl _ _))
    ·exact .inl ⟨_,(List.mem_cons_of_mem _ (List.mem_cons_of_mem _ List.mem_cons_self)),rfl⟩
    ·intro e he v W W' h hb
     simp only [List.mem_cons,List.not_mem_nil,or_false] at he
     rcases he with rfl|rfl|rfl
     ·exact TRs.up h hb
     ·exact TRs.up h hb
     ·trivial
    ·intro e he hne v W W' h _ hs
     simp only [List.mem_cons,List.not_mem_nil,or_false] at he
     rcases he with rfl|rfl|rfl
     ·exact TRs.stay h h6B hs
     ·exact TRs.stay h h6B hs
     ·trivial
    apply Exists.intro
    refine ⟨fun x=>?_,?_,?_⟩
    ·simp only [List.drop_succ_cons,List.drop_zero,List.take_succ_cons,List.take_zero]
     iterate 3
      refine segQuiet rfl rfl ?_
      apply Exists.intro
      refine ⟨fun b F hF hf K hK=>?_,?_⟩
      ·have hFc:=hF.cls
       have x0_:=fun d=>(hFc d).cell x0 (by omega)
       have x1_:=fun d=>(hFc d).cell x1 (by omega)
       have y0_:=fun d=>(hFc d).cell y0 (by omega)
       have v0_:=fun d=>(hFc d).cell v0 (by omega)
       go_big_quiet_op
       first|exact hK|(apply Exists.intro;refine ⟨fun _=>?_,?_⟩;(· fail);exact hK)
      (try simp only [Act.put,List.setIfInBounds_toArray,List.set_cons_zero,List.set_cons_succ])
     refine segTold rfl (by decide) rfl ?_ ?_
     ·intro b F hF hf d
      have hFc:=hF.cls
      have x0_:=fun d=>(hFc d).cell x0 (by omega)
      have x1_:=fun d=>(hFc d).cell x1 (by omega)
      have y0_:=fun d=>(hFc d).cell y0 (by omega)
      have v0_:=fun d=>(hFc d).cell v0 (by omega)
      simp [yieldsR,yieldsUpon,go_sem]
      refine (rfoldt_any p p2 pA m c m2 c2 nA cA g.1 g.2 nda.D HG.out.2.1 HG.out.2.2 HRA.out.1 (F d) (HGn.out.1.up (hFc d).1) (HGn.out.2.up (hFc d).1) (HA.out.1.up (hFc d).1)).mono ?_
      rintro e' w6 ⟨v6,rfl,R6,hb6⟩
      exact ⟨_,rfl,R6.low (hFc d).2.1.1,hb6⟩
     iterate 3
      (try simp only [Act.put,List.setIfInBounds_toArray,List.set_cons_zero,List.set_cons_succ])
      refine segQuiet rfl rfl ?_
      apply Exists.intro
      refine ⟨fun b F hF hf K hK=>?_,?_⟩
      ·have hFc:=hF.cls
       have x0_:=fun d=>(hFc d).cell x0 (by omega)
       have x1_:=fun d=>(hFc d).cell x1 (by omega)
       have y0_:=fun d=>(hFc d).cell y0 (by omega)
       have v0_:=fun d=>(hFc d).cell v0 (by omega)
       go_big_quiet_op
       first|exact hK|(apply Exists.intro;refine ⟨fun _=>?_,?_⟩;(· fail);exact hK)
     (try simp only [Act.put,List.setIfInBounds_toArray,List.set_cons_zero,List.set_cons_succ])
     refine segTold rfl (by decide) rfl ?_ ?_
     ·intro b F hF hf d
      have hFc:=hF.cls
      have x0_:=fun d=>(hFc d).cell x0 (by omega)
      have x1_:=fun d=>(hFc d).cell x1 (by omega)
      have y0_:=fun d=>(hFc d).cell y0 (by omega)
      have v0_:=fun d=>(hFc d).cell v0 (by omega)
      simp [yieldsR,yieldsUpon,go_sem]
      refine (rfoldt_any p p2 pB m c m2 c2 nB cB g.1 g.2 dB_ HG.out.2.1 HG.out.2.2 HRB.out (F d) (HGn.out.1.up (hFc d).1) (HGn.out.2.up (hFc d).1) (HBn.out.1.up (hFc d).1)).mono ?_
      rintro e' w6 ⟨v6,rfl,R6,hb6⟩
      exact ⟨_,rfl,R6.low (hFc d).2.1.1,hb6⟩
     (try simp only [Act.put,List.setIfInBounds_toArray,List.set_cons_zero,List.set_cons_succ])
     refine segStore rfl rfl rfl (by simp) ?_ ?_
     ·intro W hW hf
      obtain ⟨s9,t9,e9,hs9,ht9⟩:=hf _ List.mem_cons_self (by rfl) W
      obtain ⟨ps,ms,cs,rfl⟩:=hs9.form_
      obtain ⟨pt,mt,ct,rfl⟩:=ht9.form_
      obtain ⟨s8,t8,r0,r1,r2,r3⟩:=hW.2.2.1
      have hr:=Ret6.set hW (by omega) h6B hs9 ht9
      simp only [] at e9
      simp [leavesR,leavesUpon,go_sem,e9,r0,r1,r2,r3]
      exact hr
     (try simp only [Act.put,List.setIfInBounds_toArray,List.set_cons_zero,List.set_cons_succ])
     refine segEnd ?_
     exact rfl
    ·intro x
     simp only [putsK,List.foldl_cons,List.foldl_nil,Act.put,List.setIfInBounds_toArray,List.set_cons_zero,List.set_cons_succ,List.set_nil]
    ·intro W x hC hf
     obtain ⟨s6,t6,c6,hs6,ht6⟩:=hC.2.2.2 rfl
     obtain ⟨s9,t9,e9,hs9,ht9⟩:=hf _ (List.mem_cons_of_mem _ List.mem_cons_self)
     simp only [] at e9
     obtain ⟨p9,n9,c9,rfl⟩:=hs9.form_
     obtain ⟨q9,m9,d9,rfl⟩:=ht9.form_
     obtain ⟨p6,n6,c6',rfl⟩:=hs6.form_
     obtain ⟨q6,m6,d6',rfl⟩:=ht6.form_
     have x7:=hC.cel X74.out (by omega)
     obtain ⟨HZ,⟨e0,e1⟩,e2,e3⟩:=fin7 c6 x7 (by omega) hC.1 HB4.out.1.size (by omega) (cell_lt X74.out.1) hs6 ht6 hs9 ht9
     obtain ⟨r0,r1,r2,r3⟩:=x7
     have z9:=cell_lt r0
     refine from_list 9 (by kernel_rfl) ?_
     simp only [List.drop_succ_cons,List.drop_zero]
     rw [e9]
     clear hC hf c6 hs6 ht6 hs9 ht9 e9 x0 x1 y0 y1 v0 v1 k0 k1 k2 k3
     go_wp2
     exact bodyPost_ret (v:=.tuple #[.agg #[.slice p6 n6 c6',.slice q6 m6 d6'],.agg #[.slice p9 n9 c9,.slice q9 m9 d9],.int .i64 0]) (by simp [results,Tryz.results39,go_sem,e0,e1,e2,e3]) rfl ⟨_,_,rfl,HZ.out⟩
   ·go_wp2_with fail
    refine (rscale_any p p2 m c m2 c2 g.1 g.2 HG.out.2.1 HG.out.2.2 (-4294967296) (by unfold InR;omega) W4 (HGn.out.1.up HB4.out.1) (HGn.out.2.up HB4.out.1)).mono ?_
    rintro e w5 ⟨v5,rfl,⟨s5,t5,rfl,hs5,ht5⟩,hB5⟩
    obtain ⟨ps5,ms5,cs5,rfl⟩:=hs5.form_
    obtain ⟨pt5,mt5,ct5,rfl⟩:=ht5.form_
    clear x0 x1 y0 y1 v0 v1 k0 k1 k2 k3
    go_wp2_with fail
    generalize hW5:World.alloc _ _=W5
    have hL:Below w5.heap.size w5 W5:=by rw [← hW5];exact up_alloc w5 _
    have hLL:=bstep hB5 hL
    have HB5:Hid (Below w.heap.size w W5∧Below W0.heap.size W0 W5):=⟨bstep HB4.out.1 hLL,bstep HB4.out.2 hLL⟩
    have XH5:Hid (Cel W5 w5.heap.size (.slice ps5 ms5 cs5) (.slice pt5 mt5 ct5)):=by
     show Cel _ _ _ _
     rw [← hW5]
     exact new_cel (heap_alloc_new w5 _)
    have XG5:=XG4.out.up hLL
    have XA5:=XA4.out.up hLL
    have XB5:=XB4.out.up hLL
    have X65:Hid (Cel W5 (w.heap.size+1) (.slice none 0 0) (.slice none 0 0)):=X64.out.up hLL
    have X75:Hid (Cel W5 (w.heap.size+2) (.slice none 0 0) (.slice none 0 0)):=X74.out.up hLL
    have h6B5:=cell_lt X65.out.1
    have HH:Hid (OwnK .i64 3 W5 W4.heap.size (.slice ps5 ms5 cs5) (scaleD g.1 g.2)∧OwnK .i64 33 W5 W4.heap.size (.slice pt5 mt5 ct5) (scaleV g.1 g.2 (-4294967296))):=⟨hs5.up hL,ht5.up hL⟩
    have HHR:Hid (RI (scaleD g.1 g.2)∧RI (scaleV g.1 g.2 (-4294967296))):=⟨(scale_g2 HG.out (-4294967296)).1.2.1,(scale_g2 HG.out (-4294967296)).1.2.2⟩
    obtain ⟨hb,ehb⟩:∃ z,w5.heap.size=z:=⟨_,rfl⟩
    have hh6:W4.heap.size≤hb:=by rw [← ehb];exact hB5.size
    rw [ehb] at XH5
    rw [ehb]
    clear hW5 hL hLL hs5 ht5 hB5 ehb
    obtain ⟨x0,x1,_,_⟩:=XG5
    obtain ⟨y0,y1,_,_⟩:=XA5
    obtain ⟨v0,v1,_,_⟩:=XB5
    obtain ⟨u0,u1,_,_⟩:=XH5.out
    refine from_region (by kernel_rfl) ?_
    refine seg (Ret6 w W5 (w.heap.size+1) (fold2 g nda.D).1 (fold2 g nda.D).2) (Stay (w.heap.size+1)) 8 [⟨3,143,TRs W5.heap.size (fold2 g nda.D).1 (fold2 g nda.D).2⟩,⟨7,147,TRs W5.heap.size (fold2 (scale2 g (-4294967296)) dB_).1 (fold2 (scale2 g (-4294967296)) dB_).2⟩,⟨8,374,fun _ _=>True⟩] 0 9 374 rfl rfl (by kernel_rfl) (by rfl) ?_ ?_ ?_ ?_ ?_ ?_
    ·exact fun f W W' h hb=>Ret6.up h hb
    ·exact Ret6.new HB5.out.1 X65.out (below_drew1 (Below.refl _ _))
    ·exact .inl ⟨_,(List.mem_cons_of_mem _ (List.mem_cons_of_mem _ List.mem_cons_self)),rfl⟩
    ·intro e he v W W' h hb
     simp only [List.mem_cons,List.not_mem_nil,or_false] at he
     rcases he with rfl|rfl|rfl
     ·exact TRs.up h hb
     ·exact TRs.up h hb
     ·trivial
    ·intro e he hne v W W' h _ hs
     simp only [List.mem_cons,List.not_mem_nil,or_false] at he
     rcases he with rfl|rfl|rfl
     ·exact TRs.stay h h6B5 hs
     ·exact TRs.stay h h6B5 hs
     ·trivial
    apply Exists.intro
    refine ⟨fun x=>?_,?_,?_⟩
    ·simp only [List.drop_succ_cons,List.drop_zero,List.take_succ_cons,List.take_zero]
     iterate 3
      refine segQuiet rfl rfl ?_
      apply Exists.intro
      refine ⟨fun b F hF hf K hK=>?_,?_⟩
      ·have hFc:=hF.cls
       have x0_:=fun d=>(hFc d).cell x0 (by omega)
       have x1_:=fun d=>(hFc d).cell x1 (by omega)
       have y0_:=fun d=>(hFc d).cell y0 (by omega)
       have v0_:=fun d=>(hFc d).cell v0 (by omega)
       have u0_:=fun d=>(hFc d).cell u0 (by omega)
       have u1_:=fun d=>(hFc d).cell u1 (by omega)
       go_big_quiet_op
       first|exact hK|(apply Exists.intro;refine ⟨fun _=>?_,?_⟩;(· fail);exact hK)
      (try simp only [Act.put,List.setIfInBounds_toArray,List.set_cons_zero,List.set_cons_succ])
     refine segTold rfl (by decide) rfl ?_ ?_
     ·intro b F hF hf d
      have hFc:=hF.cls
      have x0_:=fun d=>(hFc d).cell x0 (by omega)
      have x1_:=fun d=>(hFc d).cell x1 (by omega)
      have y0_:=fun d=>(hFc d).cell y0 (by omega)
      have v0_:=fun d=>(hFc d).cell v0 (by omega)
      have u0_:=fun d=>(hFc d).cell u0 (by omega)
      have u1_:=fun d=>(hFc d).cell u1 (by omega)
      simp [yieldsR,yieldsUpon,go_sem]
      refine (rfoldt_any p p2 pA m c m2 c2 nA cA g.1 g.2 nda.D HG.out.2.1 HG.out.2.2 HRA.out.1 (F d) (HGn.out.1.up (hFc d).1) (HGn.out.2.up (hFc d).1) (HA.out.1.up (hFc d).1)).mono ?_
      rintro e' w6 ⟨v6,rfl,R6,hb6⟩
      exact ⟨_,rfl,R6.low (hFc d).2.1.1,hb6⟩
     iterate 3
      (try simp only [Act.put,List.setIfInBounds_toArray,List.set_cons_zero,List.set_cons_succ])
      refine segQuiet rfl rfl ?_
      apply Exists.intro
      refine ⟨fun b F hF hf K hK=>?_,?_⟩
      ·have hFc:=hF.cls
       have x0_:=fun d=>(hFc d).cell x0 (by omega)
       have x1_:=fun d=>(hFc d).cell x1 (by omega)
       have y0_:=fun d=>(hFc d).cell y0 (by omega)
       have v0_:=fun d=>(hFc d).cell v0 (by omega)
       have u0_:=fun d=>(hFc d).cell u0 (by omega)
       have u1_:=fun d=>(hFc d).cell u1 (by omega)
       go_big_quiet_op
       first|exact hK|(apply Exists.intro;refine ⟨fun _=>?_,?_⟩;(· fail);exact hK)
     (try simp only [Act.put,List.setIfInBounds_toArray,List.set_cons_zero,List.set_cons_succ])
     refine segTold rfl (by decide) rfl ?_ ?_
     ·intro b F hF hf d
      have hFc:=hF.cls
      have x0_:=fun d=>(hFc d).cell x0 (by omega)
      have x1_:=fun d=>(hFc d).cell x1 (by omega)
      have y0_:=fun d=>(hFc d).cell y0 (by omega)
      have v0_:=fun d=>(hFc d).cell v0 (by omega)
      have u0_:=fun d=>(hFc d).cell u0 (by omega)
      have u1_:=fun d=>(hFc d).cell u1 (by omega)
      simp [yieldsR,yieldsUpon,go_sem]
      refine (rfoldt_any ps5 pt5 pB ms5 cs5 mt5 ct5 nB cB (scaleD g.1 g.2) (scaleV g.1 g.2 (-4294967296)) dB_ HHR.out.1 HHR.out.2 HRB.out (F d) (HH.out.1.stay ⟨(hFc d).2.1.1,fun k h1 h2=>(hFc d).2.1.2 k h2 h1⟩ (HH.out.1.off h6B)).nums (HH.out.2.stay ⟨(hFc d).2.1.1,fun k h1 h2=>(hFc d).2.1.2 k h2 h1⟩ (HH.out.2.off h6B)).nums (HBn.out.1.up (hFc d).1)).mono ?_
      rintro e' w6 ⟨v6,rfl,R6,hb6⟩
      exact ⟨_,rfl,R6.low (hFc d).2.1.1,hb6⟩
     (try simp only [Act.put,List.setIfInBounds_toArray,List.set_cons_zero,List.set_cons_succ])
     refine segStore rfl rfl rfl (by simp) ?_ ?_
     ·intro W hW hf
      obtain ⟨s9,t9,e9,hs9,ht9⟩:=hf _ List.mem_cons_self (by rfl) W
      obtain ⟨ps,ms,cs,rfl⟩:=hs9.form_
      obtain ⟨pt,mt,ct,rfl⟩:=ht9.form_
      obtain ⟨s8,t8,r0,r1,r2,r3⟩:=hW.2.2.1
      have hr:=Ret6.set hW (by omega) h6B5 hs9 ht9
      simp only [] at e9
      simp [leavesR,leavesUpon,go_sem,e9,r0,r1,r2,r3]
      exact hr
     (try simp only [Act.put,List.setIfInBounds_toArray,List.set_cons_zero,List.set_cons_succ])
     refine segEnd ?_
     exact rfl
    ·intro x
     simp only [putsK,List.foldl_cons,List.foldl_nil,Act.put,List.setIfInBounds_toArray,List.set_cons_zero,List.set_cons_succ,List.set_nil]
    ·intro W x hC hf
     obtain ⟨s6,t6,c6,hs6,ht6⟩:=hC.2.2.2 rfl
     obtain ⟨s9,t9,e9,hs9,ht9⟩:=hf _ (List.mem_cons_of_mem _ List.mem_cons_self)
     simp only [] at e9
     obtain ⟨p9,n9,c9,rfl⟩:=hs9.form_
     obtain ⟨q9,m9,d9,rfl⟩:=ht9.form_
     obtain ⟨p6,n6,c6',rfl⟩:=hs6.form_
     obtain ⟨q6,m6,d6',rfl⟩:=ht6.form_
     have x7:=hC.cel X75.out (by omega)
     obtain ⟨HZ,⟨e0,e1⟩,e2,e3⟩:=fin7 c6 x7 (by omega) hC.1 HB5.out.1.size (by omega) (cell_lt X75.out.1) hs6 ht6 hs9 ht9
     obtain ⟨r0,r1,r2,r3⟩:=x7
     have z9:=cell_lt r0
     refine from_list 9 (by kernel_rfl) ?_
     simp only [List.drop_succ_cons,List.drop_zero]
     rw [e9]
     clear hC hf c6 hs6 ht6 hs9 ht9 e9 x0 x1 y0 y1 v0 v1 u0 u1
     go_wp2
     exact bodyPost_ret (v:=.tuple #[.agg #[.slice p6 n6 c6',.slice q6 m6 d6'],.agg #[.slice p9 n9 c9,.slice q9 m9 d9],.int .i64 0]) (by simp [results,Tryz.results39,go_sem,e0,e1,e2,e3]) rfl ⟨_,_,rfl,HZ.out⟩
   ·have o:=ok_each (a:=(nda.D,nda.X)) (b:=(dB_,xB_)) HOK.out.1 (HOK.out.2.2.1 (by decide)) HOK.out.2.2.2.1 HOK.out.2.1 HOK.out.2.2.2.2
    have HM1:Hid (RI (eachD g.1 g.2 dB_ xB_)∧RI (eachV Fx.mulI g.1 g.2 dB_ xB_)):=⟨o.2.2.1.2.2.2.1,o.2.2.1.2.2.2.2⟩
    have HM2:Hid (RI (eachD g.1 g.2 nda.D nda.X)∧RI (eachV Fx.mulI g.1 g.2 nda.D nda.X)):=⟨o.2.2.2.2.2.2.1,o.2.2.2.2.2.2.2⟩
    clear o
    go_wp2_with fail
    refine (reach2_any p p2 pB qB m c m2 c2 nB cB mB eB g.1 g.2 dB_ xB_ HG.out.2.1 HG.out.2.2 HRB.out HRX.out W4 (HGn.out.1.up HB4.out.1) (HGn.out.2.up HB4.out.1) (HBn.out.1.up HB4.out.1) (HBn.out.2.up HB4.out.1)).mono ?_
    rintro e w5 ⟨v5,rfl,⟨s5,t5,rfl,hs5,ht5⟩,hB5⟩
    obtain ⟨ps5,ms5,cs5,rfl⟩:=hs5.form_
    obtain ⟨pt5,mt5,ct5,rfl⟩:=ht5.form_
    clear x0 x1 y0 y1 v0 v1 k0 k1 k2 k3
    obtain ⟨x0,x1,_,_⟩:=XG4.out.up hB5
    have x9:=cell_lt x0
    obtain ⟨y0,y1,_,_⟩:=XA4.out.up hB5
    have y9:=cell_lt y0
    go_wp2_with fail
    generalize hW5:World.alloc _ _=W5
    have hL:Below w5.heap.size w5 W5:=by rw [← hW5];exact up_alloc w5 _
    have hLL:=bstep hB5 hL
    have HB5:Hid (Below w.heap.size w W5∧Below W0.heap.size W0 W5):=⟨bstep HB4.out.1 hLL,bstep HB4.out.2 hLL⟩
    have XH5:Hid (Cel W5 w5.heap.size (.slice ps5 ms5 cs5) (.slice pt5 mt5 ct5)):=by
     show Cel _ _ _ _
     rw [← hW5]
     exact new_cel (heap_alloc_new w5 _)
    have HH5:Hid (OwnK .i64 3 W5 W0.heap.size (.slice ps5 ms5 cs5) (eachD g.1 g.2 dB_ xB_)∧OwnK .i64 33 W5 W0.heap.size (.slice pt5 mt5 ct5) (eachV Fx.mulI g.1 g.2 dB_ xB_)):=⟨(hs5.up hL).low HB4.out.2.size,(ht5.up hL).low HB4.out.2.size⟩
    have XG4:=hid1 (XG4.out.up hLL)
    have XA4:=hid1 (XA4.out.up hLL)
    have XB4:=hid1 (XB4.out.up hLL)
    have X64:=hid1 (X64.out.up hLL)
    have X74:=hid1 (X74.out.up hLL)
    obtain ⟨hb5,ehb5⟩:∃ z,w5.heap.size=z:=⟨_,rfl⟩
    have hlb5:W0.heap.size≤hb5:=by rw [← ehb5];exact Nat.le_trans HB4.out.2.size hB5.size
    rw [ehb5] at XH5
    rw [ehb5]
    clear hW5 hL hLL hs5 ht5 hB5 ehb5
    clear x0 x1 x9 y0 y1 y9
    refine (reach2_any p p2 pA qA m c m2 c2 nA cA mA eA g.1 g.2 nda.D nda.X HG.out.2.1 HG.out.2.2 HRA.out.1 HRA.out.2 W5 (HGn.out.1.up HB5.out.1) (HGn.out.2.up HB5.out.1) (HA.out.1.up HB5.out.1) (HA.out.2.1.up HB5.out.1)).mono ?_
    rintro e w6 ⟨v6,rfl,⟨s6,t6,rfl,hs6,ht6⟩,hB6⟩
    obtain ⟨ps6,ms6,cs6,rfl⟩:=hs6.form_
    obtain ⟨pt6,mt6,ct6,rfl⟩:=ht6.form_
    go_wp2_with fail
    generalize hW6:World.alloc _ _=W6
    have hL:Below w6.heap.size w6 W6:=by rw [← hW6];exact up_alloc w6 _
    have hLL:=bstep hB6 hL
    have HB6:Hid (Below w.heap.size w W6∧Below W0.heap.size W0 W6):=⟨bstep HB5.out.1 hLL,bstep HB5.out.2 hLL⟩
    have XH6:Hid (Cel W6 w6.heap.size (.slice ps6 ms6 cs6) (.slice pt6 mt6 ct6)):=by
     show Cel _ _ _ _
     rw [← hW6]
     exact new_cel (heap_alloc_new w6 _)
    have HH6:Hid (OwnK .i64 3 W6 W0.heap.size (.slice ps6 ms6 cs6) (eachD g.1 g.2 nda.D nda.X)∧OwnK .i64 33 W6 W0.heap.size (.slice pt6 mt6 ct6) (eachV Fx.mulI g.1 g.2 nda.D nda.X)):=⟨(hs6.up hL).low HB5.out.2.size,(ht6.up hL).low HB5.out.2.size⟩
    have XA4:=hid1 (XA4.out.up hLL)
    have XB4:=hid1 (XB4.out.up hLL)
    have X64:=hid1 (X64.out.up hLL)
    have X74:=hid1 (X74.out.up hLL)
    have XH5:=hid1 (XH5.out.up hLL)
    have HH5:=hid1 (And.intro (HH5.out.1.up hLL) (HH5.out.2.up hLL))
    obtain ⟨hb6,ehb6⟩:∃ z,w6.heap.size=z:=⟨_,rfl⟩
    have hlb6:W0.heap.size≤hb6:=by rw [← ehb6];exact Nat.le_trans HB5.out.2.size hB6.size
    rw [ehb6] at XH6
    rw [ehb6]
    clear hW6 hL hLL hs6 ht6 hB6 ehb6
    have h6B6:=cell_lt X64.out.1
    have h60:=cell_lt X6.out.1
    obtain ⟨y0,y1,_,_⟩:=XA4.out
    obtain ⟨v0,v1,_,_⟩:=XB4.out
    obtain ⟨u0,u1,_,_⟩:=XH5.out
    obtain ⟨t0,t1,_,_⟩:=XH6.out
    refine from_region (by kernel_rfl) ?_
    refine seg (Ret6 w W6 (w.heap.size+1) (fold2 (mul2 g (dB_,xB_)) nda.D).1 (fold2 (mul2 g (dB_,xB_)) nda.D).2) (Stay (w.heap.size+1)) 8 [⟨3,165,TRs W6.heap.size (fold2 (mul2 g (dB_,xB_)) nda.D).1 (fold2 (mul2 g (dB_,xB_)) nda.D).2⟩,⟨7,169,TRs W6.heap.size (fold2 (mul2 g (nda.D,nda.X)) dB_).1 (fold2 (mul2 g (nda.D,nda.X)) dB_).2⟩,⟨8,374,fun _ _=>True⟩] 0 9 374 rfl rfl (by kernel_rfl) (by rfl) ?_ ?_ ?_ ?_ ?_ ?_
    ·exact fun f W W' h hb=>Ret6.up h hb
    ·exact Ret6.new HB6.out.1 X64.out (below_drew1 (Below.refl _ _))
    ·exact .inl ⟨_,(List.mem_cons_of_mem _ (List.mem_cons_of_mem _ List.mem_cons_self)),rfl⟩
    ·intro e he v W W' h hb
     simp only [List.mem_cons,List.not_mem_nil,or_false] at he
     rcases he with rfl|rfl|rfl
     ·exact TRs.up h hb
     ·exact TRs.up h hb
     ·trivial
    ·intro e he hne v W W' h _ hs
     simp only [List.mem_cons,List.not_mem_nil,or_false] at he
     rcases he with rfl|rfl|rfl
     ·exact TRs.stay h h6B6 hs
     ·exact TRs.stay h h6B6 hs
     ·trivial
    apply Exists.intro
    refine ⟨fun x=>?_,?_,?_⟩
    ·simp only [List.drop_succ_cons,List.drop_zero,List.take_succ_cons,List.take_zero]
     iterate 3
      refine segQuiet rfl rfl ?_
      apply Exists.intro
      refine ⟨fun b F hF hf K hK=>?_,?_⟩
      ·have hFc:=hF.cls
       have u0_:=fun d=>(hFc d).cell u0 (by omega)
       have u1_:=fun d=>(hFc d).cell u1 (by omega)
       have y0_:=fun d=>(hFc d).cell y0 (by omega)
       have t0_:=fun d=>(hFc d).cell t0 (by omega)
       have t1_:=fun d=>(hFc d).cell t1 (by omega)
       have v0_:=fun d=>(hFc d).cell v0 (by omega)
       go_big_quiet_op
       first|exact hK|(apply Exists.intro;refine ⟨fun _=>?_,?_⟩;(· fail);exact hK)
      (try simp only [Act.put,List.setIfInBounds_toArray,List.set_cons_zero,List.set_cons_succ])
     refine segTold rfl (by decide) rfl ?_ ?_
     ·intro b F hF hf d
      have hFc:=hF.cls
      have u0_:=fun d=>(hFc d).cell u0 (by omega)
      have u1_:=fun d=>(hFc d).cell u1 (by omega)
      have y0_:=fun d=>(hFc d).cell y0 (by omega)
      have t0_:=fun d=>(hFc d).cell t0 (by omega)
      have t1_:=fun d=>(hFc d).cell t1 (by omega)
      have v0_:=fun d=>(hFc d).cell v0 (by omega)
      simp [yieldsR,yieldsUpon,go_sem]
      refine (rfoldt_any ps5 pt5 pA ms5 cs5 mt5 ct5 nA cA (eachD g.1 g.2 dB_ xB_) (eachV Fx.mulI g.1 g.2 dB_ xB_) nda.D HM1.out.1 HM1.out.2 HRA.out.1 (F d) (HH5.out.1.stay ⟨(hFc d).2.1.1,fun k h1 h2=>(hFc d).2.1.2 k h2 h1⟩ (HH5.out.1.off h60)).nums (HH5.out.2.stay ⟨(hFc d).2.1.1,fun k h1 h2=>(hFc d).2.1.2 k h2 h1⟩ (HH5.out.2.off h60)).nums (HA.out.1.up (hFc d).1)).mono ?_
      rintro e' w6 ⟨v6,rfl,R6,hb6⟩
      exact ⟨_,rfl,R6.low (hFc d).2.1.1,hb6⟩
     iterate 3
      (try simp only [Act.put,List.setIfInBounds_toArray,List.set_cons_zero,List.set_cons_succ])
      refine segQuiet rfl rfl ?_
      apply Exists.intro
      refine ⟨fun b F hF hf K hK=>?_,?_⟩
      ·have hFc:=hF.cls
       have u0_:=fun d=>(hFc d).cell u0 (by omega)
       have u1_:=fun d=>(hFc d).cell u1 (by omega)
       have y0_:=fun d=>(hFc d).cell y0 (by omega)
       have t0_:=fun d=>(hFc d).cell t0 (by omega)
       have t1_:=fun d=>(hFc d).cell t1 (by omega)
       have v0_:=fun d=>(hFc d).cell v0 (by omega)
       go_big_quiet_op
       first|exact hK|(apply Exists.intro;refine ⟨fun _=>?_,?_⟩;(· fail);exact hK)
     (try simp only [Act.put,List.setIfInBounds_toArray,List.set_cons_zero,List.set_cons_succ])
     refine segTold rfl (by decide) rfl ?_ ?_
     ·intro b F hF hf d
      have hFc:=hF.cls
      have u0_:=fun d=>(hFc d).cell u0 (by omega)
      have u1_:=fun d=>(hFc d).cell u1 (by omega)
      have y0_:=fun d=>(hFc d).cell y0 (by omega)
      have t0_:=fun d=>(hFc d).cell t0 (by omega)
      have t1_:=fun d=>(hFc d).cell t1 (by omega)
      have v0_:=fun d=>(hFc d).cell v0 (by omega)
      simp [yieldsR,yieldsUpon,go_sem]
      refine (rfoldt_any ps6 pt6 pB ms6 cs6 mt6 ct6 nB cB (eachD g.1 g.2 nda.D nda.X) (eachV Fx.mulI g.1 g.2 nda.D nda.X) dB_ HM2.out.1 HM2.out.2 HRB.out (F d) (HH6.out.1.stay ⟨(hFc d).2.1.1,fun k h1 h2=>(hFc d).2.1.2 k h2 h1⟩ (HH6.out.1.off h60)).nums (HH6.out.2.stay ⟨(hFc d).2.1.1,fun k h1 h2=>(hFc d).2.1.2 k h2 h1⟩ (HH6.out.2.off h60)).nums (HBn.out.1.up (hFc d).1)).mono ?_
      rintro e' w6 ⟨v6,rfl,R6,hb6⟩
      exact ⟨_,rfl,R6.low (hFc d).2.1.1,hb6⟩
     (try simp only [Act.put,List.setIfInBounds_toArray,List.set_cons_zero,List.set_cons_succ])
     refine segStore rfl rfl rfl (by simp) ?_ ?_
     ·intro W hW hf
      obtain ⟨s9,t9,e9,hs9,ht9⟩:=hf _ List.mem_cons_self (by rfl) W
      obtain ⟨ps,ms,cs,rfl⟩:=hs9.form_
      obtain ⟨pt,mt,ct,rfl⟩:=ht9.form_
      obtain ⟨s8,t8,r0,r1,r2,r3⟩:=hW.2.2.1
      have hr:=Ret6.set hW (by omega) h6B6 hs9 ht9
      simp only [] at e9
      simp [leavesR,leavesUpon,go_sem,e9,r0,r1,r2,r3]
      exact hr
     (try simp only [Act.put,List.setIfInBounds_toArray,List.set_cons_zero,List.set_cons_succ])
     refine segEnd ?_
     exact rfl
    ·intro x
     simp only [putsK,List.foldl_cons,List.foldl_nil,Act.put,List.setIfInBounds_toArray,List.set_cons_zero,List.set_cons_succ,List.set_nil]
    ·intro W x hC hf
     obtain ⟨s6,t6,c6,hs6,ht6⟩:=hC.2.2.2 rfl
     obtain ⟨s9,t9,e9,hs9,ht9⟩:=hf _ (List.mem_cons_of_mem _ List.mem_cons_self)
     simp only [] at e9
     obtain ⟨p9,n9,c9,rfl⟩:=hs9.form_
     obtain ⟨q9,m9,d9,rfl⟩:=ht9.form_
     obtain ⟨p6,n6,c6',rfl⟩:=hs6.form_
     obtain ⟨q6,m6,d6',rfl⟩:=ht6.form_
     have x7:=hC.cel X74.out (by omega)
     obtain ⟨HZ,⟨e0,e1⟩,e2,e3⟩:=fin7 c6 x7 (by omega) hC.1 HB6.out.1.size (by omega) (cell_lt X74.out.1) hs6 ht6 hs9 ht9
     obtain ⟨r0,r1,r2,r3⟩:=x7
     have z9:=cell_lt r0
     refine from_list 9 (by kernel_rfl) ?_
     simp only [List.drop_succ_cons,List.drop_zero]
     rw [e9]
     clear hC hf c6 hs6 ht6 hs9 ht9 e9 y0 y1 v0 v1 u0 u1 t0 t1
     go_wp2
     exact bodyPost_ret (v:=.tuple #[.agg #[.slice p6 n6 c6',.slice q6 m6 d6'],.agg #[.slice p9 n9 c9,.slice q9 m9 d9],.int .i64 0]) (by simp [results,Tryz.results39,go_sem,e0,e1,e2,e3]) rfl ⟨_,_,rfl,HZ.out⟩
   ·exact absurd HDN.out (by decide)
   ·exact absurd HDN.out (by decide)
  ·subst eb
   subst ed
   subst ex
   clear H2
   have hop:op=5∨op=7∨op=8∨op=9∨op=10∨op=11∨op=13∨op=14:=by omega
   have XX:Hid (Cel W3 w.heap.size (.slice p m c) (.slice p2 m2 c2)):=XG.out.up HB3.out.2
   obtain ⟨x0,x1,_,_⟩:=XX.out
   have z5:=cell_lt x0
   obtain ⟨y0,y1,_,_⟩:=new_cel HA3
   rcases hop with rfl|rfl|rfl|rfl|rfl|rfl|rfl|rfl
   ·exact absurd HDN.out (by decide)
   ·exact absurd HDN.out (by decide)
   ·exact absurd HDN.out (by decide)
   ·go_wp2_with fail
    generalize hW4:World.alloc _ _=W4
    have hL:Below W3.heap.size W3 W4:=by rw [← hW4];exact up_alloc W3 _
    have HB4:Hid (Below w.heap.size w W4∧Below W0.heap.size W0 W4):=⟨bstep HB3.out.1 hL,bstep HB3.out.2 hL⟩
    have XA4:Hid (Cel W4 ab (.slice pA nA cA) (.slice qA mA eA)):=(new_cel HA3).up hL
    have XG4:Hid (Cel W4 w.heap.size (.slice p m c) (.slice p2 m2 c2)):=XG.out.up HB4.out.2
    have X64:Hid (Cel W4 (w.heap.size+1) (.slice none 0 0) (.slice none 0 0)):=X6.out.up HB4.out.2
    have X74:Hid (Cel W4 (w.heap.size+2) (.slice none 0 0) (.slice none 0 0)):=X7.out.up HB4.out.2
    have X94:Hid (Cel W4 (w.heap.size+3) (.slice none 0 0) (.slice none 0 0)):=X9.out.up HB4.out.2
    have h6B:=cell_lt X64.out.1
    have hob:=cell_lt X9.out.1
    clear hW4 hL n0 n1 x0 x1 y0 y1 k0 k1 k2 k3 z1 z2 z3 z4 z5 t1
    obtain ⟨_,_,_,e4,HL⟩:=HGn.out.2.lst
    cases e4
    have hm2:0 < m2:=by rw [← HL.out.1,HG.out.1.2];exact goodN.pos HG.out.1.1
    obtain ⟨q2,o2,rfl,gc⟩:=HL.out.2 0 hm2
    have gc4:=cell_low gc HB4.out.1
    rw [Nat.add_zero] at gc4
    have hq2:q2 < w.heap.size:=cell_lt gc
    clear HL gc
    obtain ⟨x0,x1,_,_⟩:=XG4.out
    obtain ⟨y0,y1,_,_⟩:=XA4.out
    obtain ⟨n0,n1,_,_⟩:=X94.out
    refine from_region (by kernel_rfl) ?_
    refine seg (Ret6 w W4 (w.heap.size+1) (onA 9 k (nda.D,nda.X) ([],[]) g).1 (onA 9 k (nda.D,nda.X) ([],[]) g).2) (Stay (w.heap.size+1)) 8 [⟨6,273,TRs W4.heap.size (onA 9 k (nda.D,nda.X) ([],[]) g).1 (onA 9 k (nda.D,nda.X) ([],[]) g).2⟩,⟨8,374,fun _ _=>True⟩] 0 9 374 rfl rfl (by kernel_rfl) (by rfl) ?_ ?_ ?_ ?_ ?_ ?_
    ·exact fun f W W' h hb=>Ret6.up h hb
    ·exact Ret6.new HB4.out.1 X64.out (below_drew1 (Below.refl _ _))
    ·exact .inl ⟨_,(List.mem_cons_of_mem _ List.mem_cons_self),rfl⟩
    ·intro e he v W W' h hb
     simp only [List.mem_cons,List.not_mem_nil,or_false] at he
     rcases he with rfl|rfl
     ·exact TRs.up h hb
     ·trivial
    ·intro e he hne v W W' h _ hs
     simp only [List.mem_cons,List.not_mem_nil,or_false] at he
     rcases he with rfl|rfl
     ·exact TRs.stay h h6B hs
     ·trivial
    apply Exists.intro
    refine ⟨fun x=>?_,?_,?_⟩
    ·simp only [List.drop_succ_cons,List.drop_zero,List.take_succ_cons,List.take_zero]
     iterate 6
      refine segQuiet rfl rfl ?_
      apply Exists.intro
      refine ⟨fun b F hF hf K hK=>?_,?_⟩
      ·have hFc:=hF.cls
       have x0_:=fun d=>(hFc d).cell x0 (by omega)
       have x1_:=fun d=>(hFc d).cell x1 (by omega)
       have y0_:=fun d=>(hFc d).cell y0 (by omega)
       have y1_:=fun d=>(hFc d).cell y1 (by omega)
       have n0_:=fun d=>(hFc d).cell n0 (by omega)
       have n1_:=fun d=>(hFc d).cell n1 (by omega)
       have gc4_:=fun d=>(hFc d).cell gc4 (by omega)
       go_big_quiet_op
       first|exact hK|(apply Exists.intro;refine ⟨fun _=>?_,?_⟩;(· fail);exact hK)
      (try simp only [Act.put,List.setIfInBounds_toArray,List.set_cons_zero,List.set_cons_succ])
     refine segTold rfl (by decide) rfl ?_ ?_
     ·intro b F hF hf d
      have hFc:=hF.cls
      have x0_:=fun d=>(hFc d).cell x0 (by omega)
      have x1_:=fun d=>(hFc d).cell x1 (by omega)
      have y0_:=fun d=>(hFc d).cell y0 (by omega)
      have y1_:=fun d=>(hFc d).cell y1 (by omega)
      have n0_:=fun d=>(hFc d).cell n0 (by omega)
      have n1_:=fun d=>(hFc d).cell n1 (by omega)
      have gc4_:=fun d=>(hFc d).cell gc4 (by omega)
      simp [yieldsR,yieldsUpon,go_sem]
      refine (rnew_any _ nda.D HRA.out.1 HGA.out (g.2.getD 0 0) (F d) (HA.out.1.up (hFc d).1)).mono ?_
      rintro e' w6 ⟨v6,rfl,R6,hb6⟩
      exact ⟨_,rfl,R6.res.low (hFc d).2.1.1,hb6⟩
     (try simp only [Act.put,List.setIfInBounds_toArray,List.set_cons_zero,List.set_cons_succ])
     refine segQuiet rfl rfl ?_
     apply Exists.intro
     refine ⟨fun b F hF hf K hK=>?_,?_⟩
     ·have hFc:=hF.cls
      have x0_:=fun d=>(hFc d).cell x0 (by omega)
      have x1_:=fun d=>(hFc d).cell x1 (by omega)
      have y0_:=fun d=>(hFc d).cell y0 (by omega)
      have y1_:=fun d=>(hFc d).cell y1 (by omega)
      have n0_:=fun d=>(hFc d).cell n0 (by omega)
      have n1_:=fun d=>(hFc d).cell n1 (by omega)
      have gc4_:=fun d=>(hFc d).cell gc4 (by omega)
      go_big_quiet_op
      first|exact hK|(apply Exists.intro;refine ⟨fun _=>?_,?_⟩;(· fail);exact hK)
     (try simp only [Act.put,List.setIfInBounds_toArray,List.set_cons_zero,List.set_cons_succ])
     refine segStore rfl rfl rfl (by simp) ?_ ?_
     ·intro W hW hf
      obtain ⟨s9,t9,e9,hs9,ht9⟩:=hf _ List.mem_cons_self (by rfl) W
      obtain ⟨ps,ms,cs,rfl⟩:=hs9.form_
      obtain ⟨pt,mt,ct,rfl⟩:=ht9.form_
      obtain ⟨s8,t8,r0,r1,r2,r3⟩:=hW.2.2.1
      have hr:=Ret6.set hW (by omega) h6B hs9 ht9
      simp only [] at e9
      simp [leavesR,leavesUpon,go_sem,e9,r0,r1,r2,r3]
      exact hr
     (try simp only [Act.put,List.setIfInBounds_toArray,List.set_cons_zero,List.set_cons_succ])
     refine segEnd ?_
     exact rfl
    ·intro x
     simp only [putsK,List.foldl_cons,List.foldl_nil,Act.put,List.setIfInBounds_toArray,List.set_cons_zero,List.set_cons_succ,List.set_nil]
    ·intro W x hC hf
     obtain ⟨s6,t6,c6,hs6,ht6⟩:=hC.2.2.2 rfl
     obtain ⟨p6,n6,c6',rfl⟩:=hs6.form_
     obtain ⟨q6,m6,d6',rfl⟩:=ht6.form_
     have x7:=hC.cel X74.out (by omega)
     obtain ⟨HZ,⟨e0,e1⟩,e2,e3⟩:=fin7 c6 x7 (by omega) hC.1 HB4.out.1.size (by omega) (cell_lt X74.out.1) hs6 ht6 (OwnK.nil _ _ _ _) (OwnK.nil _ _ _ _)
     obtain ⟨r0,r1,r2,r3⟩:=x7
     have z9:=cell_lt r0
     refine from_list 9 (by kernel_rfl) ?_
     simp only [List.drop_succ_cons,List.drop_zero]
     clear hC hf c6 hs6 ht6 x0 x1 y0 y1 n0 n1 gc4
     go_wp2
     exact bodyPost_ret (v:=.tuple #[.agg #[.slice p6 n6 c6',.slice q6 m6 d6'],.agg #[.slice none 0 0,.slice none 0 0],.int .i64 0]) (by simp [results,Tryz.results39,go_sem,e0,e1,e2,e3]) rfl ⟨_,_,rfl,HZ.out⟩
   ·go_wp2_with fail
    generalize hW4:World.alloc _ _=W4
    have hL:Below W3.heap.size W3 W4:=by rw [← hW4];exact up_alloc W3 _
    have HB4:Hid (Below w.heap.size w W4∧Below W0.heap.size W0 W4):=⟨bstep HB3.out.1 hL,bstep HB3.out.2 hL⟩
    have XA4:Hid (Cel W4 ab (.slice pA nA cA) (.slice qA mA eA)):=(new_cel HA3).up hL
    have XG4:Hid (Cel W4 w.heap.size (.slice p m c) (.slice p2 m2 c2)):=XG.out.up HB4.out.2
    have X64:Hid (Cel W4 (w.heap.size+1) (.slice none 0 0) (.slice none 0 0)):=X6.out.up HB4.out.2
    have X74:Hid (Cel W4 (w.heap.size+2) (.slice none 0 0) (.slice none 0 0)):=X7.out.up HB4.out.2
    have X94:Hid (Cel W4 (w.heap.size+3) (.slice none 0 0) (.slice none 0 0)):=X9.out.up HB4.out.2
    have h6B:=cell_lt X64.out.1
    have hob:=cell_lt X9.out.1
    clear hW4 hL n0 n1 x0 x1 y0 y1 k0 k1 k2 k3 z1 z2 z3 z4 z5 t1
    obtain ⟨_,_,_,e4,HL⟩:=HGn.out.2.lst
    cases e4
    have hm2:0 < m2:=by rw [← HL.out.1,HG.out.1.2];exact goodN.pos HG.out.1.1
    obtain ⟨q2,o2,rfl,gc⟩:=HL.out.2 0 hm2
    have gc4:=cell_low gc HB4.out.1
    rw [Nat.add_zero] at gc4
    have hq2:q2 < w.heap.size:=cell_lt gc
    clear HL gc
    obtain ⟨M,eM⟩:∃ M,Fx.hold (rqI (g.2.getD 0 0) (nda.X.length:Int))=M:=⟨_,rfl⟩
    obtain ⟨_,_,_,e5,HL5⟩:=HA.out.2.1.lst
    cases e5
    have hmA:0 < mA:=by rw [← HL5.out.1,HOK.out.1.1.2];exact goodN.pos HOK.out.1.1.1
    have hmA2:mA≤4096:=by rw [← HL5.out.1,HOK.out.1.1.2];exact HOK.out.1.1.1.2.2
    have hmA':(mA:Int)≤4096:=by omega
    obtain ⟨zF,hF_,cF_⟩:=Rf.fromD (InR_get HG.out.2.2 0)
    obtain ⟨zD,hD_,cD_⟩:=Rf.dividedD hF_ (n:=(mA:Int)) (by unfold InR;omega) (by omega)
    have cH_:Hid (∀ W,Calls Tryz.prog 60 #[zD] W fun e w'=>e = .returned (.int .i64 M)∧Below W.heap.size W w'):=fun W=>by
     have:=Rf.heldS zD _ hD_ W
     rw [← HL5.out.1] at this
     rw [← eM]
     exact this
    have HcF:=hid1 cF_
    have HcD:=hid1 cD_
    have HMM:Hid (Fx.hold (rqI (g.2.getD 0 0) (nda.X.length:Int))=M):=eM
    obtain ⟨G0,eG0⟩:∃ G,g.2.getD 0 0=G:=⟨_,rfl⟩
    rw [eG0] at gc4 HcF
    clear cF_ cD_ hF_ hD_ eM eG0 HL5
    obtain ⟨x0,x1,_,_⟩:=XG4.out
    obtain ⟨y0,y1,_,_⟩:=XA4.out
    have x9:=cell_lt x0
    have y9:=cell_lt y0
    have g9:=cell_lt gc4
    refine rel [] 10 374 (by kernel_rfl) rfl rfl (by kernel_rfl) (by rfl) ?_ ?_
    ·intro e he
     simp at he
    apply Exists.intro
    refine ⟨fun x=>?_,?_,?_⟩
    ·simp only [List.take_succ_cons,List.take_zero]
     iterate 4
      refine relQuiet rfl rfl ?_
      apply Exists.intro
      refine ⟨fun F hF hf K hK=>?_,?_⟩
      ·have hFc:=hF.cell
       have hFf:=hF.frozen
       go_big_quiet_op
       first|exact hK|(apply Exists.intro;refine ⟨fun _=>?_,?_⟩;(· fail);exact hK)
      (try simp only [Act.put,List.setIfInBounds_toArray,List.set_cons_zero,List.set_cons_succ])
     refine relQuiet rfl rfl ?_
     apply Exists.intro
     refine ⟨fun F hF hf K hK=>?_,?_⟩
     ·have hFc:=hF.cell
      have hFf:=hF.frozen
      go_big_quiet_op
      first|exact hK|(apply Exists.intro;refine ⟨fun _=>?_,?_⟩;(· exact hF.call (HcF.out _));exact hK)
     iterate 3
      (try simp only [Act.put,List.setIfInBounds_toArray,List.set_cons_zero,List.set_cons_succ])
      refine relQuiet rfl rfl ?_
      apply Exists.intro
      refine ⟨fun F hF hf K hK=>?_,?_⟩
      ·have hFc:=hF.cell
       have hFf:=hF.frozen
       go_big_quiet_op
       first|exact hK|(apply Exists.intro;refine ⟨fun _=>?_,?_⟩;(· fail);exact hK)
     (try simp only [Act.put,List.setIfInBounds_toArray,List.set_cons_zero,List.set_cons_succ])
     refine relQuiet rfl rfl ?_
     apply Exists.intro
     refine ⟨fun F hF hf K hK=>?_,?_⟩
     ·have hFc:=hF.cell
      have hFf:=hF.frozen
      go_big_quiet_op
      first|exact hK|(apply Exists.intro;refine ⟨fun _=>?_,?_⟩;(· exact hF.call (HcD.out _));exact hK)
     (try simp only [Act.put,List.setIfInBounds_toArray,List.set_cons_zero,List.set_cons_succ])
     refine relQuiet rfl rfl ?_
     apply Exists.intro
     refine ⟨fun F hF hf K hK=>?_,?_⟩
     ·have hFc:=hF.cell
      have hFf:=hF.frozen
      go_big_quiet_op
      first|exact hK|(apply Exists.intro;refine ⟨fun _=>?_,?_⟩;(· exact hF.call (cH_.out _));exact hK)
     (try simp only [Act.put,List.setIfInBounds_toArray,List.set_cons_zero,List.set_cons_succ])
     refine relEnd ?_
     exact rfl
    ·intro x
     simp only [putsK,List.foldl_cons,List.foldl_nil,Act.put,List.setIfInBounds_toArray,List.set_cons_zero,List.set_cons_succ]
    intro W5 xs hB5 hf
    simp only [List.drop_succ_cons,List.drop_zero]
    have HB5:Hid (Below w.heap.size w W5∧Below W0.heap.size W0 W5):=⟨bstep HB4.out.1 hB5,bstep HB4.out.2 hB5⟩
    have XA4:=hid1 (XA4.out.up hB5)
    have X64:=hid1 (X64.out.up hB5)
    have X74:=hid1 (X74.out.up hB5)
    have X94:=hid1 (X94.out.up hB5)
    have h6B5:=cell_lt X64.out.1
    clear hf hB5 x0 x1 y0 y1 x9 y9 g9 gc4 HcF HcD cH_
    go_wp2_with fail
    obtain ⟨y0,y1,_,_⟩:=XA4.out
    obtain ⟨n0,n1,_,_⟩:=X94.out
    refine from_region (by kernel_rfl) ?_
    refine seg (Ret6 w W5 (w.heap.size+1) (onA 10 k (nda.D,nda.X) ([],[]) g).1 (onA 10 k (nda.D,nda.X) ([],[]) g).2) (Stay (w.heap.size+1)) 5 [⟨3,290,TRs W5.heap.size (onA 10 k (nda.D,nda.X) ([],[]) g).1 (onA 10 k (nda.D,nda.X) ([],[]) g).2⟩,⟨5,374,fun _ _=>True⟩] 0 6 374 rfl rfl (by kernel_rfl) (by rfl) ?_ ?_ ?_ ?_ ?_ ?_
    ·exact fun f W W' h hb=>Ret6.up h hb
    ·exact Ret6.new HB5.out.1 X64.out (below_drew1 (Below.refl _ _))
    ·exact .inl ⟨_,(List.mem_cons_of_mem _ List.mem_cons_self),rfl⟩
    ·intro e he v W W' h hb
     simp only [List.mem_cons,List.not_mem_nil,or_false] at he
     rcases he with rfl|rfl
     ·exact TRs.up h hb
     ·trivial
    ·intro e he hne v W W' h _ hs
     simp only [List.mem_cons,List.not_mem_nil,or_false] at he
     rcases he with rfl|rfl
     ·exact TRs.stay h h6B5 hs
     ·trivial
    apply Exists.intro
    refine ⟨fun x=>?_,?_,?_⟩
    ·simp only [List.drop_succ_cons,List.drop_zero,List.take_succ_cons,List.take_zero]
     iterate 3
      refine segQuiet rfl rfl ?_
      apply Exists.intro
      refine ⟨fun b F hF hf K hK=>?_,?_⟩
      ·have hFc:=hF.cls
       have y0_:=fun d=>(hFc d).cell y0 (by omega)
       have y1_:=fun d=>(hFc d).cell y1 (by omega)
       have n0_:=fun d=>(hFc d).cell n0 (by omega)
       have n1_:=fun d=>(hFc d).cell n1 (by omega)
       go_big_quiet_op
       first|exact hK|(apply Exists.intro;refine ⟨fun _=>?_,?_⟩;(· fail);exact hK)
      (try simp only [Act.put,List.setIfInBounds_toArray,List.set_cons_zero,List.set_cons_succ])
     refine segTold rfl (by decide) rfl ?_ ?_
     ·intro b F hF hf d
      have hFc:=hF.cls
      have y0_:=fun d=>(hFc d).cell y0 (by omega)
      have y1_:=fun d=>(hFc d).cell y1 (by omega)
      have n0_:=fun d=>(hFc d).cell n0 (by omega)
      have n1_:=fun d=>(hFc d).cell n1 (by omega)
      simp [yieldsR,yieldsUpon,go_sem]
      refine (rnew_any _ nda.D HRA.out.1 HGA.out M (F d) (HA.out.1.up (hFc d).1)).mono ?_
      rintro e' w6 ⟨v6,rfl,R6,hb6⟩
      exact ⟨_,rfl,(show TRes _ _ _ (onA 10 k (nda.D,nda.X) ([],[]) g).1 (onA 10 k (nda.D,nda.X) ([],[]) g).2 from by have h:=R6.res;rw [← HMM.out] at h;exact h).low (hFc d).2.1.1,hb6⟩
     (try simp only [Act.put,List.setIfInBounds_toArray,List.set_cons_zero,List.set_cons_succ])
     refine segQuiet rfl rfl ?_
     apply Exists.intro
     refine ⟨fun b F hF hf K hK=>?_,?_⟩
     ·have hFc:=hF.cls
      have y0_:=fun d=>(hFc d).cell y0 (by omega)
      have y1_:=fun d=>(hFc d).cell y1 (by omega)
      have n0_:=fun d=>(hFc d).cell n0 (by omega)
      have n1_:=fun d=>(hFc d).cell n1 (by omega)
      go_big_quiet_op
      first|exact hK|(apply Exists.intro;refine ⟨fun _=>?_,?_⟩;(· fail);exact hK)
     (try simp only [Act.put,List.setIfInBounds_toArray,List.set_cons_zero,List.set_cons_succ])
     refine segStore rfl rfl rfl (by simp) ?_ ?_
     ·intro W hW hf
      obtain ⟨s9,t9,e9,hs9,ht9⟩:=hf _ List.mem_cons_self (by rfl) W
      obtain ⟨ps,ms,cs,rfl⟩:=hs9.form_
      obtain ⟨pt,mt,ct,rfl⟩:=ht9.form_
      obtain ⟨s8,t8,r0,r1,r2,r3⟩:=hW.2.2.1
      have hr:=Ret6.set hW (by omega) h6B5 hs9 ht9
      simp only [] at e9
      simp [leavesR,leavesUpon,go_sem,e9,r0,r1,r2,r3]
      exact hr
     (try simp only [Act.put,List.setIfInBounds_toArray,List.set_cons_zero,List.set_cons_succ])
     refine segEnd ?_
     exact rfl
    ·intro x
     simp only [putsK,List.foldl_cons,List.foldl_nil,Act.put,List.setIfInBounds_toArray,List.set_cons_zero,List.set_cons_succ,List.set_nil]
    ·intro W x hC hf
     obtain ⟨s6,t6,c6,hs6,ht6⟩:=hC.2.2.2 rfl
     obtain ⟨p6,n6,c6',rfl⟩:=hs6.form_
     obtain ⟨q6,m6,d6',rfl⟩:=ht6.form_
     have x7:=hC.cel X74.out (by omega)
     obtain ⟨HZ,⟨e0,e1⟩,e2,e3⟩:=fin7 c6 x7 (by omega) hC.1 HB5.out.1.size (by omega) (cell_lt X74.out.1) hs6 ht6 (OwnK.nil _ _ _ _) (OwnK.nil _ _ _ _)
     obtain ⟨r0,r1,r2,r3⟩:=x7
     have z9:=cell_lt r0
     refine from_list 6 (by kernel_rfl) ?_
     simp only [List.drop_succ_cons,List.drop_zero]
     clear hC hf c6 hs6 ht6 y0 y1 n0 n1
     go_wp2
     exact bodyPost_ret (v:=.tuple #[.agg #[.slice p6 n6 c6',.slice q6 m6 d6'],.agg #[.slice none 0 0,.slice none 0 0],.int .i64 0]) (by simp [results,Tryz.results39,go_sem,e0,e1,e2,e3]) rfl ⟨_,_,rfl,HZ.out⟩
   ·go_wp2_with fail
    generalize hW4:World.alloc _ _=W4
    have hL:Below W3.heap.size W3 W4:=by rw [← hW4];exact up_alloc W3 _
    have HB4:Hid (Below w.heap.size w W4∧Below W0.heap.size W0 W4):=⟨bstep HB3.out.1 hL,bstep HB3.out.2 hL⟩
    clear hW4 hL n0 n1 x0 x1 y0 y1 k0 k1 k2 k3 z1 z2 z3 z4 z5 t1
    refine (runbent_any k pA qA p p2 nA cA mA eA m c m2 c2 nda.D nda.X g.1 g.2 HRA.out.1 HRA.out.2 HG.out.2.1 HG.out.2.2 W4 (HA.out.1.up HB4.out.1) (HA.out.2.1.up HB4.out.1) (HGn.out.1.up HB4.out.1) (HGn.out.2.up HB4.out.1)).mono ?_
    rintro e w5 ⟨v5,rfl,⟨s5,t5,rfl,hs5,ht5⟩,hB5⟩
    obtain ⟨ps,ms,cs,rfl⟩:=hs5.form_
    obtain ⟨pt,mt,ct,rfl⟩:=ht5.form_
    have hBb:=bstep HB4.out.2 hB5
    obtain ⟨n0,n1,_,_⟩:=X9.out.up hBb
    obtain ⟨r0,r1,r2,r3⟩:=X6.out.up hBb
    obtain ⟨q0,q1,q2,q3⟩:=X7.out.up hBb
    have z1:=cell_lt n0
    have z2:=cell_lt r0
    have z3:=cell_lt q0
    go_wp2_with fail
    go_region
    generalize hZ:World.drew _=Z
    obtain ⟨HZ,⟨e0,e1⟩,e2,e3⟩:=fin22z (w:=w) (B:=W4.heap.size) (Z:=Z) rfl (by rw [← hZ];exact below_drew1 (up_alloc _ _)) (X6.out.up hBb) (X7.out.up hBb) (by omega) (bstep HB0.out hBb) (by omega) (by omega) (Nat.lt_of_lt_of_le (cell_lt X6.out.1) HB4.out.2.size) (Nat.lt_of_lt_of_le (cell_lt X7.out.1) HB4.out.2.size) hs5 ht5 (OwnK.nil _ _ _ _) (OwnK.nil _ _ _ _)
    clear hZ
    go_wp2
    exact bodyPost_ret (v:=.tuple #[.agg #[.slice ps ms cs,.slice pt mt ct],.agg #[.slice none 0 0,.slice none 0 0],.int .i64 0]) (by simp [results,Tryz.results39,go_sem,e0,e1,e2,e3]) rfl ⟨_,_,rfl,HZ.out⟩
   ·exact absurd HDN.out (by decide)
   ·exact absurd HDN.out (by decide)
end Go.Proofs.YtpdkkcnmgiihcaaGreatDoor.Wd
