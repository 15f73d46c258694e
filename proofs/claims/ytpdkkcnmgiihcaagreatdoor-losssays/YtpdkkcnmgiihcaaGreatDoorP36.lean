/- The reference's Do: a node more. -/
import Derived.Test.YtpdkkcnmgiihcaaGreatDoorP35
set_option linter.unusedVariables false
set_option linter.unusedSimpArgs false
set_option maxHeartbeats 16000000
set_option maxRecDepth 16000
namespace Go.Proofs.YtpdkkcnmgiihcaaGreatDoor.Wd
open Go.RowKit Fx
theorem rdo_ok (B tb:Nat) (ns:List Nd) (op:Int) (ai:Nat) (b k:Int) (nda:Nd) (hnda:ns[ai]?=some nda) (dB_ xB_:List Int) (BV KV:Int) (h2:(twoP op∧BV=b∧∃ (bi:Nat) (ndb:Nd),b=(bi:Int)∧ns[bi]?=some ndb∧dB_=ndb.D∧xB_=ndb.X)∨(¬ twoP op∧BV = -1∧dB_ = []∧xB_ = [])) (h3:(byP op∧KV=k)∨(¬ byP op∧KV=0)) (ho1:2≤op) (ho2:op≤14) (hroom:ns.length < 512) (E:Int) (D V:List Int) (RR:Int) (NS:List Nd) (HG:Hid ((E=0→RR=(ns.length:Int)∧NS=ns++[⟨op,(ai:Int),BV,KV,D,V⟩])∧(E≠0→RR=0∧NS=ns))) (w:World) (hT:Tap 41 47 w B tb ns)
  (HR:Hid (∀ (W:World) (pA qA pB qB:Option Addr) (nA cA mA eA nB cB mB eB:Nat),Below w.heap.size w W→nA≤cA→Nums .i64 W (.slice pA nA cA) nda.D→Nums .i64 W (.slice qA mA eA) nda.X→Nums .i64 W (.slice pB nB cB) dB_→Nums .i64 W (.slice qB mB eB) xB_→Calls Tryz.prog 50 #[.int .i64 op,.agg #[.slice pA nA cA,.slice qA mA eA],.agg #[.slice pB nB cB,.slice qB mB eB],.int .i64 KV] W fun e w'=>∃ v',e = .returned (.tuple #[v',.int .i64 E])∧TRes w' W.heap.size v' D V∧Below W.heap.size W w')):
  Calls Tryz.prog 34 #[.pointer (some ⟨tb,0,none⟩),.int .i64 op,.int .i64 (ai:Int),.int .i64 b,.int .i64 k] w fun e w'=>e = .returned (.tuple #[.int .i64 RR,.int .i64 E])∧Tap 41 47 w' B tb NS∧Below B w w'∧Only [41,47] w w':=by
 have hTT:Hid (Tap 41 47 w B tb ns):=hT
 obtain ⟨pL,cL,xs0,hv,ho,hn0,hnc⟩:=hT.head
 obtain ⟨N,eN⟩:∃ N,ns.length=N:=⟨_,rfl⟩
 rw [eN] at hv ho hnc HG
 have hcell:=(head_cell hv).1
 have hz:=heap_lt hv
 have HBB:Hid (B≤w.heap.size):=Nat.le_trans hTT.out.1 (Nat.le_of_lt hz)
 have hl:Hid (N < 512):=by show _ < _;rw [← eN];exact hroom
 have hd1:decide ((512:Int)≤(N:Int))=false:=decide_eq_false (by have:=hl.out;omega)
 have hd2:decide (512≤N)=false:=decide_eq_false (by have:=hl.out;omega)
 have hai:ai < N:=by rw [← eN];exact (List.getElem?_eq_some_iff.1 hnda).1
 obtain ⟨q,nda',sA_,tA_,eq,hx,_,_,_,_,ca4,ca5,hsA,htA⟩:=node_cells ho hn0 eN ai hai
 rw [hnda] at hx
 cases hx
 obtain ⟨pA,nA,cA,rfl⟩:=hsA.form_
 obtain ⟨qA,mA,eA,rfl⟩:=htA.form_
 have o1:decide (op < 2)=false:=decide_eq_false (by omega)
 have o2:decide (14 < op)=false:=decide_eq_false (by omega)
 have a2:decide ((N:Int)≤(ai:Int))=false:=decide_eq_false (by omega)
 have a3:decide (N≤ai)=false:=decide_eq_false (by omega)
 have a4:(ai:Int) < (N:Int):=by omega
 haveI:Nonempty World:=⟨w⟩
 have HCg:Hid (∀ (W:World) (pB qB:Option Addr) (nB cB mB eB:Nat),Below w.heap.size w W→Nums .i64 W (.slice pB nB cB) dB_→Nums .i64 W (.slice qB mB eB) xB_→Calls Tryz.prog 50 #[.int .i64 op,.agg #[.slice pA nA cA,.slice qA mA eA],.agg #[.slice pB nB cB,.slice qB mB eB],.int .i64 KV] W fun e w'=>∃ v',e = .returned (.tuple #[v',.int .i64 E])∧TRes w' W.heap.size v' D V∧Below W.heap.size W w'):=fun W pB qB nB cB mB eB hW g1 g2=>HR.out W _ _ _ _ _ _ _ _ _ _ _ _ hW hsA.cap (hsA.nums.up hW) (htA.nums.up hW) g1 g2
 clear hsA htA hnda HR hroom ho1 ho2
 have HK3:Hid ((byP op∧KV=k)∨(¬ byP op∧KV=0)):=h3
 clear h3
 rcases h2 with ⟨h2,eV,bi,ndb,eb,hndb,ed,ex⟩|⟨h2,eV,ed,ex⟩
 case' inl=>
  have hbi:bi < N:=by rw [← eN];exact (List.getElem?_eq_some_iff.1 hndb).1
  obtain ⟨q',ndb',sB_,tB_,eq',hx,_,_,_,_,cb4,cb5,hsB,htB⟩:=node_cells ho hn0 eN bi hbi
  rw [hndb] at hx
  cases hx
  obtain ⟨pB,nB,cB,rfl⟩:=hsB.form_
  obtain ⟨qB,mB,eB,rfl⟩:=htB.form_
  rw [eq] at eq'
  cases eq'
  subst eq
  have HC:Hid (∀ W,Below w.heap.size w W→Calls Tryz.prog 50 #[.int .i64 op,.agg #[.slice pA nA cA,.slice qA mA eA],.agg #[.slice pB nB cB,.slice qB mB eB],.int .i64 KV] W fun e w'=>∃ v',e = .returned (.tuple #[v',.int .i64 E])∧TRes w' W.heap.size v' D V∧Below W.heap.size W w'):=fun W hW=>HCg.out W _ _ _ _ _ _ hW (by rw [ed];exact hsB.nums.up hW) (by rw [ex];exact htB.nums.up hW)
  have hq:decide (twoP op)=true:=decide_eq_true h2
  have b2:decide ((N:Int)≤(bi:Int))=false:=decide_eq_false (by omega)
  have b3:decide (N≤bi)=false:=decide_eq_false (by omega)
  have b4:(bi:Int) < (N:Int):=by omega
  have HWb:Hid (w.cell? ⟨q,bi*6+4,none⟩=some (.slice pB nB cB)∧w.cell? ⟨q,bi*6+5,none⟩=some (.slice qB mB eB)∧BV=(bi:Int)):=⟨cb4,cb5,eV.trans eb⟩
  subst eb
  clear hsB htB hndb cb4 cb5 hbi ed ex eV
 case' inr=>
  subst eq
  obtain ⟨pB,nB,cB,qB,mB,eB,eY⟩:∃ (pB:Option Addr) (nB cB:Nat) (qB:Option Addr) (mB eB:Nat),(Value.slice none 0 0 = .slice pB nB cB∧Value.slice none 0 0 = .slice qB mB eB):=⟨_,_,_,_,_,_,rfl,rfl⟩
  have HC:Hid (∀ W,Below w.heap.size w W→Calls Tryz.prog 50 #[.int .i64 op,.agg #[.slice pA nA cA,.slice qA mA eA],.agg #[.slice pB nB cB,.slice qB mB eB],.int .i64 KV] W fun e w'=>∃ v',e = .returned (.tuple #[v',.int .i64 E])∧TRes w' W.heap.size v' D V∧Below W.heap.size W w'):=fun W hW=>HCg.out W _ _ _ _ _ _ hW (by rw [ed,← eY.1];exact .inl ⟨rfl,rfl⟩) (by rw [ex,← eY.2];exact .inl ⟨rfl,rfl⟩)
  have hq:decide (twoP op)=false:=decide_eq_false h2
  have HY_:Hid (BV = -1∧(Value.slice none 0 0 = .slice pB nB cB∧Value.slice none 0 0 = .slice qB mB eB)):=⟨eV,eY⟩
  clear eY ed ex eV
 all_goals
  have hzq:=cell_lt ca4
  have HW:Hid (w.cell? ⟨tb,0,none⟩=some (.slice (some ⟨q,0,none⟩) N cL)∧w.cell? ⟨q,ai*6+4,none⟩=some (.slice pA nA cA)∧w.cell? ⟨q,ai*6+5,none⟩=some (.slice qA mA eA)):=⟨hcell,ca4,ca5⟩
  clear hT hv ho hn0 hnc ca4 ca5 h2 HCg
  go_enter Tryz.func34,Tryz.ntmps34
  go_wp2_with fail
  refine (rtwo_any op _ hq w).mono ?_
  rintro e w9 ⟨rfl,ew9⟩
  have ew:=ew9.symm
  subst ew
  clear ew9
  go_wp2_with fail
  generalize hW0:World.alloc _ _=W0
  have HB0:Hid (Below w.heap.size w W0):=by show Below _ _ _;rw [← hW0];go_grown
  have HN0:W0.heap[w.heap.size]?=some (.cells #[.int .i64 op,.int .i64 (ai:Int),.int .i64 (-1),.int .i64 0,.slice none 0 0,.slice none 0 0] 47 (0,0)):=by
   rw [← hW0,heap_alloc_old _ _ (by rw [size_alloc];omega)]
   exact heap_alloc_new _ _
  have HY0:W0.heap[w.heap.size+1]?=some (.cells #[.slice none 0 0,.slice none 0 0] 31 (0,0)):=by
   rw [← hW0,← size_alloc w (.cells #[.int .i64 op,.int .i64 (ai:Int),.int .i64 (-1),.int .i64 0,.slice none 0 0,.slice none 0 0] 47)]
   exact heap_alloc_new _ _
  clear hW0
  refine (rtwo_any op _ hq W0).mono ?_
  rintro e w9 ⟨rfl,ew9⟩
  have ew:=ew9.symm
  subst ew
  clear ew9
  clear hq
  have n1:tb≠w.heap.size:=by omega
  have n2:tb≠w.heap.size+1:=by omega
  have n3:q≠w.heap.size:=by omega
  have n4:q≠w.heap.size+1:=by omega
 all_goals first
  |have hb_:=HWb
   clear hb_
   obtain ⟨⟨_,_,k2,k3,k4,k5⟩,kf⟩:=box6 HN0
   obtain ⟨l0,l1,l2,l3⟩:=new_cel HY0
   have hc0:=cell_low HW.out.1 HB0.out
   have cb4:=cell_low HWb.out.1 HB0.out
   have cb5:=cell_low HWb.out.2.1 HB0.out
   have s1:=heap_lt HN0
   have s2:=heap_lt HY0
   go_wp2_with fail
   generalize hW1:World.setCell _ _ _=W1
   have HN1:W1.heap[w.heap.size]?=some (.cells #[.int .i64 op,.int .i64 (ai:Int),.int .i64 BV,.int .i64 0,.slice none 0 0,.slice none 0 0] 47 (0,0)):=by
    rw [HWb.out.2.2,← hW1,heap_set _ _ _ _ _ (by omega),heap_set _ _ _ _ _ (by omega),heap_setat HN0]
    rfl
   have HY1:W1.heap[w.heap.size+1]?=some (.cells #[.slice pB nB cB,.slice qB mB eB] 31 (0,0)):=by
    have h0:(W0.setCell ⟨w.heap.size,2,none⟩ (.int .i64 (bi:Int))).heap[w.heap.size+1]?=some (.cells #[.slice none 0 0,.slice none 0 0] 31 (0,0)):=by
     rw [heap_set _ _ _ _ _ (by omega)]
     exact HY0
    rw [← hW1,heap_setat (heap_setat h0)]
    rfl
   have HB1:Hid (Below w.heap.size w W1):=by
    show Below _ _ _
    rw [← hW1]
    exact ((HB0.out.setCell (p:=⟨w.heap.size,2,none⟩) (Nat.le_refl _) _).setCell (p:=⟨w.heap.size+1,0,none⟩) (Nat.le_succ _) _).setCell (p:=⟨w.heap.size+1,1,none⟩) (Nat.le_succ _) _
   clear hW1 k2 k3 k4 k5 kf l0 l1 l2 l3 hc0 cb4 cb5 s1 s2 HN0 HY0 HB0 HWb
  |go_wp2_with fail
   obtain ⟨W1,eW1⟩:∃ W1:World,W1=W0:=⟨_,rfl⟩
   rw [← eW1]
   rw [← eW1] at HN0 HY0 HB0
   have HN1:W1.heap[w.heap.size]?=some (.cells #[.int .i64 op,.int .i64 (ai:Int),.int .i64 BV,.int .i64 0,.slice none 0 0,.slice none 0 0] 47 (0,0)):=by rw [HY_.out.1];exact HN0
   have HY1:W1.heap[w.heap.size+1]?=some (.cells #[.slice pB nB cB,.slice qB mB eB] 31 (0,0)):=by
    rw [← HY_.out.2.1,← HY_.out.2.2]
    exact HY0
   have HB1:=HB0
   clear HN0 HY0 HB0 eW1 HY_
 all_goals
  rcases HK3.out with ⟨h3,eK⟩|⟨h3,eK⟩
  case' inl=>
   refine (rby_any op true (decide_eq_true h3) W1).mono ?_
   rintro e w9 ⟨rfl,ew9⟩
   have ew:=ew9.symm
   subst ew
   clear ew9
   obtain ⟨⟨_,_,_,k3,_,_⟩,kf⟩:=box6 HN1
   have s1:=heap_lt HN1
   go_wp2_with fail
   refine name_world (fun W2 hW2=>?_)
   have HN2:W2.heap[w.heap.size]?=some (.cells #[.int .i64 op,.int .i64 (ai:Int),.int .i64 BV,.int .i64 KV,.slice none 0 0,.slice none 0 0] 47 (0,0)):=by
    rw [hW2,heap_setat HN1,eK]
    rfl
   have HY2:W2.heap[w.heap.size+1]?=some (.cells #[.slice pB nB cB,.slice qB mB eB] 31 (0,0)):=by
    rw [hW2,heap_set _ _ _ _ _ (by omega)]
    exact HY1
   have HB2:Hid (Below w.heap.size w W2):=by
    show Below _ _ _
    rw [hW2]
    exact HB1.out.setCell (p:=⟨w.heap.size,3,none⟩) (Nat.le_refl _) _
   clear k3 kf s1
  case' inr=>
   refine (rby_any op false (decide_eq_false h3) W1).mono ?_
   rintro e w9 ⟨rfl,ew9⟩
   have ew:=ew9.symm
   subst ew
   clear ew9
   go_wp2_with fail
   refine name_world (fun W2 hW2=>?_)
   have HN2:W2.heap[w.heap.size]?=some (.cells #[.int .i64 op,.int .i64 (ai:Int),.int .i64 BV,.int .i64 KV,.slice none 0 0,.slice none 0 0] 47 (0,0)):=by rw [hW2,eK];exact HN1
   have HY2:W2.heap[w.heap.size+1]?=some (.cells #[.slice pB nB cB,.slice qB mB eB] 31 (0,0)):=by rw [hW2];exact HY1
   have HB2:Hid (Below w.heap.size w W2):=by show Below _ _ _;rw [hW2];exact HB1.out
  all_goals
   clear hW2 HN1 HY1 HB1 HK3 h3 eK
   have hc0:=cell_low HW.out.1 HB2.out
   have ca4:=cell_low HW.out.2.1 HB2.out
   have ca5:=cell_low HW.out.2.2 HB2.out
   obtain ⟨⟨_,_,_,k3,_,_⟩,_⟩:=box6 HN2
   obtain ⟨y0,y1,_,_⟩:=new_cel HY2
   have s0:=cell_lt hc0
   have s1:=heap_lt HN2
   have s2:=heap_lt HY2
   have s3:=cell_lt ca4
   refine relE [⟨12,91,TupP W2.heap.size D V E⟩,⟨13,78,TupP W2.heap.size D V E⟩,⟨14,92,OwnT W2.heap.size D V⟩,⟨16,14,NewC W2.heap.size⟩] 17 115 (by kernel_rfl) rfl rfl 15 _ rfl (by decide) rfl (by kernel_rfl) (by kernel_rfl) (fun _ _ _ _ h=>h) (by rfl) ?_ ?_
   ·intro e he v W W' h hb
    simp only [List.mem_cons,List.not_mem_nil,or_false] at he
    rcases he with rfl|rfl|rfl|rfl
    ·exact TupP.up h hb
    ·exact TupP.up h hb
    ·exact OwnT.up h hb
    ·exact NewC.up h hb
   apply Exists.intro
   refine ⟨?_,?_,?_,?_⟩
   rotate_left
   ·intro x
    simp only [List.take_succ_cons,List.take_zero]
    iterate 12
     refine relQuiet rfl rfl ?_
     apply Exists.intro
     refine ⟨fun F hF hf K hK=>?_,?_⟩
     ·have hFc:=hF.cell
      have hFf:=hF.frozen
      go_big_quiet_op
      exact hK
     (try simp only [putL])
    refine relTold rfl rfl ?_ ?_
    ·intro F hF hf d
     have hFc:=hF.cell
     have hFf:=hF.frozen
     simp [yieldsR,yieldsUpon,go_sem]
     refine (HC.out (F d) (bstep HB2.out (hF.below d))).mono ?_
     rintro e' w8 ⟨v8,rfl,h8,hb8⟩
     exact ⟨_,rfl,⟨v8,rfl,(h8.low (hF.below d).size).own⟩,hb8⟩
    (try simp only [putL])
    refine relTold rfl rfl ?_ ?_
    ·intro F hF hf d
     have hFc:=hF.cell
     have hFf:=hF.frozen
     have h9:=hf _ List.mem_cons_self (by rfl) d
     simp [yieldsR,yieldsUpon,go_sem]
     exact ⟨h9,Below.refl _ _⟩
    (try simp only [putL])
    refine relTold rfl rfl ?_ ?_
    ·intro F hF hf d
     have hFc:=hF.cell
     have hFf:=hF.frozen
     have h9:=hf _ (List.mem_cons_of_mem _ List.mem_cons_self) (by rfl) d
     obtain ⟨u9,e9,n9⟩:=h9
     simp only [] at e9 n9
     simp [yieldsR,yieldsUpon,go_sem,e9]
     exact ⟨n9,Below.refl _ _⟩
    (try simp only [putL])
    refine relQuiet rfl rfl ?_
    apply Exists.intro
    refine ⟨fun F hF hf K hK=>?_,?_⟩
    ·have hFc:=hF.cell
     have hFf:=hF.frozen
     have h9:=hf _ (List.mem_cons_of_mem _ List.mem_cons_self) (by rfl)
     obtain ⟨u9,e9,_⟩:=h9 w
     simp only [] at e9
     go_big_quiet_op
     exact hK
    (try simp only [putL])
    refine relTold rfl rfl ?_ ?_
    ·intro F hF hf d
     have hFc:=hF.cell
     have hFf:=hF.frozen
     simp [yieldsR,yieldsUpon,go_sem]
     exact ⟨⟨(F d).heap.size,rfl,heap_alloc_new (F d) _,(hF.below d).size⟩,up_alloc _ _⟩
    (try simp only [putL])
    refine relEnd ?_
    exact rfl
   ·intro x
    simp only [putsK,List.foldl_cons,List.foldl_nil,Act.put,List.setIfInBounds_toArray,List.set_cons_zero,List.set_cons_succ]
   rotate_left
   ·intro x hx
    obtain ⟨W9,u9,e9,_⟩:=hx _ (List.mem_cons_of_mem _ List.mem_cons_self) (by rfl)
    simp only [] at e9
    refine ⟨.int .i64 E,fun t ht=>?_,.inl ⟨by rfl,fun w=>?_⟩⟩
    ·cases ht
     rfl
    ·simp [execOp,Act.eval,e9,go_sem]
   intro w3 xs3 hB3 hf
   simp only [List.drop_succ_cons,List.drop_zero]
   have hT1:=hf _ (List.mem_cons_of_mem _ (List.mem_cons_of_mem _ List.mem_cons_self))
   have hN:=hf _ (List.mem_cons_of_mem _ (List.mem_cons_of_mem _ (List.mem_cons_of_mem _ List.mem_cons_self)))
   obtain ⟨x12,e12⟩:∃ z,xs3 12=z:=⟨_,rfl⟩
   obtain ⟨x13,e13⟩:∃ z,xs3 13=z:=⟨_,rfl⟩
   obtain ⟨x14,e14⟩:∃ z,xs3 14=z:=⟨_,rfl⟩
   obtain ⟨x16,e16⟩:∃ z,xs3 16=z:=⟨_,rfl⟩
   simp only [e14] at hT1
   simp only [e16] at hN
   simp only [e12,e13,e14,e16]
   clear e12 e13 e14 e16 hf hc0 ca4 ca5 k3 y0 y1 s0 s1 s2 s3
   obtain ⟨pa,na,ca,pb,nb,cb,rfl,hs0,ht0⟩:=hT1
   obtain ⟨g,rfl,hb1,hb2⟩:=hN
   obtain ⟨c0_,c1_,c2_,c3_⟩:=new_cel hb1
   have HB3:Hid (Below w.heap.size w w3):=bstep HB2.out hB3
   have HN3:w3.heap[w.heap.size]?=some (.cells #[.int .i64 op,.int .i64 (ai:Int),.int .i64 BV,.int .i64 KV,.slice none 0 0,.slice none 0 0] 47 (0,0)):=by rw [hB3.block _ (heap_lt HN2)];exact HN2
   have hg1:w.heap.size+1 < g:=Nat.lt_of_lt_of_le (heap_lt HY2) hb2
   by_cases hE:E=0
   case neg=>
    have hE':(E != 0)=true:=by simpa using hE
    obtain ⟨g1,g2⟩:=HG.out.2 hE
    subst g1 g2
    have HF:Hid (Below w.heap.size w (set2 w3 g (.slice pa na ca) (.slice pb nb cb))):=below_cell HB3.out g (by omega) _ _
    clear HG HC HN2 HY2 HB2 hs0 ht0 hB3 hE HN3
    go_wp2
    exact bodyPost_ret (v:=.tuple #[.int .i64 0,.int .i64 E]) (by simp [results,Tryz.results34,go_sem]) rfl ⟨rfl,hTT.out.up HF.out,HF.out.mono HBB.out,Only.of HF.out⟩
   subst hE
   obtain ⟨g1,g2⟩:=HG.out.1 rfl
   subst g1 g2
   clear HG HC
   obtain ⟨⟨_,_,_,_,k4,k5⟩,kf⟩:=box6 HN3
   have s1:=heap_lt HN3
   have m1:w.heap.size≠g:=by omega
   have m2:g≠w.heap.size:=by omega
   clear n1 n2 n3 n4
   go_wp2_with fail
   refine name_world (fun w6 hw6=>?_)
   have hA1:(set2 w3 g (.slice pa na ca) (.slice pb nb cb)).heap[w.heap.size]?=some (.cells #[.int .i64 op,.int .i64 (ai:Int),.int .i64 BV,.int .i64 KV,.slice none 0 0,.slice none 0 0] 47 (0,0)):=by
    show (World.setCell _ _ _).heap[_]?=_
    rw [heap_set _ _ _ _ _ m1,heap_set _ _ _ _ _ m1]
    exact HN3
   have ew6:w6=((set2 w3 g (.slice pa na ca) (.slice pb nb cb)).setCell ⟨w.heap.size,4,none⟩ (.slice pa na ca)).setCell ⟨w.heap.size,5,none⟩ (.slice pb nb cb):=hw6
   have HN6:w6.heap[w.heap.size]?=some (.cells #[.int .i64 op,.int .i64 (ai:Int),.int .i64 BV,.int .i64 KV,.slice pa na ca,.slice pb nb cb] 47 (0,0)):=by
    rw [ew6,heap_setat (heap_setat hA1)]
    rfl
   have HB6a:Below w.heap.size w w6:=by
    rw [ew6]
    exact ((below_cell HB3.out g (by omega) _ _).setCell (p:=⟨w.heap.size,4,none⟩) (Nat.le_refl _) _).setCell (p:=⟨w.heap.size,5,none⟩) (Nat.le_refl _) _
   have o6:Only [31,47] w3 w6:=by
    rw [ew6]
    have h2:=heap_setat (o:=0) (x:=.slice pa na ca) hb1
    exact (((Only.set hb1 (by simp)).trans (Only.set h2 (by simp))).trans (Only.set hA1 (by simp))).trans (Only.set (heap_setat hA1) (by simp))
   have HB6:Hid (Below B w w6∧B≤w6.heap.size∧Only [41,47] w w6):=⟨HB6a.mono HBB.out,Nat.le_trans HBB.out HB6a.size,Only.of HB6a⟩
   have hlow:B≤W2.heap.size:=Nat.le_trans HBB.out HB2.out.size
   have HND6:Hid (NdC w6 B ⟨op,(ai:Int),BV,KV,D,V⟩ [.int .i64 op,.int .i64 (ai:Int),.int .i64 BV,.int .i64 KV,.slice pa na ca,.slice pb nb cb]):=⟨_,_,rfl,(hs0.only o6 (by decide)).low hlow,(ht0.only o6 (by decide)).low hlow⟩
   have HT6:=hTT.out.up HB6a
   obtain ⟨pL,cL6,xs0,hv,ho,hn0,hnc⟩:=HT6.head
   rw [eN] at hv ho
   have HTP:Hid (B≤tb∧w6.heap[tb]?=some (.cells #[.slice pL N cL6] 41 (0,0))∧ns.length=N∧w6.ownsRow B 47 6 (.slice pL N cL6) N xs0∧NdsC w6 B ns xs0):=⟨hTT.out.1,hv,eN,ho,hn0⟩
   have hrow:∀ z,Value.ownBlock (.slice pL N cL6)=some z→z < w.heap.size:=fun z hz'=>by
    have h3:=hTT.out
    obtain ⟨pL',cL',xs',hv',ho',_,_⟩:=h3.head
    rw [eN] at hv' ho'
    have h4:=HB6a.block tb (heap_lt hv')
    rw [hv,hv'] at h4
    cases h4
    exact (World.ownsRow.lt ho' z hz').2
   have HX6:Hid (w6.heap[w.heap.size]?=some (.cells #[.int .i64 op,.int .i64 (ai:Int),.int .i64 BV,.int .i64 KV,.slice pa na ca,.slice pb nb cb] 47 (0,0))∧some w.heap.size≠Value.ownBlock (.slice pL N cL6)):=⟨HN6,fun h=>by have:=hrow _ h.symm;omega⟩
   have HRW:Hid (∀ z,Value.ownBlock (.slice pL N cL6)=some z→z < w6.heap.size):=fun z hz'=>Nat.lt_of_lt_of_le (hrow z hz') HB6a.size
   have HU1:Hid (∀ z∈([.int .i64 op,.int .i64 (ai:Int),.int .i64 BV,.int .i64 KV,.slice pa na ca,.slice pb nb cb]:List Value),z.oneCell'=true):=HND6.out.one
   clear hv ho hn0 hnc hrow c0_ c1_ c2_ c3_ k4 k5 kf s1 m1 m2 hA1 ew6 hw6 o6 hs0 ht0 HT6 HB6a HN6 HN3 HB3 hb1 hb2 hg1 hB3 HN2 HY2 HB2 hlow
   refine from_region (by kernel_rfl) ?_
   refine seg (fun q W=>match q with|false=>Below w6.heap.size w6 W|true=>w6.grownBy W (Value.ownBlock (.slice pL N cL6))) (fun W W'=>W.grownBy W' (Value.ownBlock (.slice pL N cL6))) 7 [⟨6,105,LitS 47 w6.heap.size [.int .i64 op,.int .i64 (ai:Int),.int .i64 BV,.int .i64 KV,.slice pa na ca,.slice pb nb cb]⟩,⟨7,106,OwnN 47 B (N+1) (xs0++[.int .i64 op,.int .i64 (ai:Int),.int .i64 BV,.int .i64 KV,.slice pa na ca,.slice pb nb cb])⟩] 0 10 115 rfl rfl (by kernel_rfl) (by rfl) ?_ ?_ ?_ ?_ ?_ ?_
   ·intro q W W' h hb
    cases q
    ·exact bstep h hb
    ·exact grown_up h hb
   ·exact ⟨rfl,rfl,rfl,Nat.le_refl _,fun _ _=>rfl⟩
   ·exact .inl ⟨_,List.mem_cons_of_mem _ List.mem_cons_self,rfl⟩
   ·intro e he v W W' h hb
    simp only [List.mem_cons,List.not_mem_nil,or_false] at he
    rcases he with rfl|rfl
    ·exact LitS.up h hb
    ·exact OwnN.up h hb
   ·intro e he hne v W W' h hc ht
    simp only [List.mem_cons,List.not_mem_nil,or_false] at he
    rcases he with rfl|rfl
    ·exact LitS.grown h ht HRW.out
    ·exact absurd rfl hne
   apply Exists.intro
   refine ⟨fun x=>?_,?_,?_⟩
   ·simp only [List.drop_succ_cons,List.drop_zero,List.take_succ_cons,List.take_zero]
    iterate 4
     refine segQuiet rfl rfl ?_
     apply Exists.intro
     refine ⟨fun b F hF hf K hK=>?_,?_⟩
     ·have hFc:=hF.cls
      go_big_quiet_op
      exact hK
     (try simp only [putL])
    refine segQuiet rfl rfl ?_
    apply Exists.intro
    refine ⟨fun b F hF hf K hK=>?_,?_⟩
    ·have hFc:=hF.cls
     have q0:∀ d,(F d).cell? ⟨tb,0,none⟩=some (.slice pL N cL6):=fun d=>by
      have hK:w6.grownBy (F d) (Value.ownBlock (.slice pL N cL6)):=by
       cases b
       ·exact below_grown _ (hFc d)
       ·exact hFc d
      exact hK.cell (head_cell HTP.out.2.1).1 (Ne.symm (owned_off ne_nt HTP.out.2.1 HTP.out.2.2.2.1))
     clear hFc
     go_big_quiet_op
     exact hK
    (try simp only [putL])
    refine segQuiet rfl rfl ?_
    apply Exists.intro
    refine ⟨fun b F hF hf K hK=>?_,?_⟩
    ·have hFc:=hF.cls
     have q0:∀ d,(F d).heap[w.heap.size]?=some (.cells #[.int .i64 op,.int .i64 (ai:Int),.int .i64 BV,.int .i64 KV,.slice pa na ca,.slice pb nb cb] 47 (0,0)):=fun d=>by
      have hK:w6.grownBy (F d) (Value.ownBlock (.slice pL N cL6)):=by
       cases b
       ·exact below_grown _ (hFc d)
       ·exact hFc d
      rw [hK.block _ (heap_lt HX6.out.1) HX6.out.2]
      exact HX6.out.1
     have q1:=fun d=>(box6 (q0 d)).1.1
     have q2:=fun d=>(box6 (q0 d)).1.2.1
     have q3:=fun d=>(box6 (q0 d)).1.2.2.1
     have q4:=fun d=>(box6 (q0 d)).1.2.2.2.1
     have q5:=fun d=>(box6 (q0 d)).1.2.2.2.2.1
     have q6:=fun d=>(box6 (q0 d)).1.2.2.2.2.2
     clear hFc q0
     go_big_quiet_op
     exact hK
    (try simp only [putL])
    refine segTold rfl (by decide) rfl ?_ ?_
    ·intro b F hF hf d
     have hFc:=hF.cls
     have hcls:w6.heap.size≤(F d).heap.size:=by
      cases b
      ·exact (hFc d).size
      ·exact (hFc d).size
     simp [yieldsR,yieldsUpon,go_sem]
     exact ⟨⟨(F d).heap.size,rfl,heap_alloc_new (F d) _,hcls⟩,up_alloc _ _⟩
    (try simp only [putL])
    refine segBusy rfl rfl rfl ?_ ?_
    ·intro W hW hf
     have h7:=hf _ List.mem_cons_self (by rfl) W
     obtain ⟨g7,e7,hg7,_⟩:=h7
     simp only [] at e7
     obtain ⟨g8,c8,w8,hr8,ho8,hgr8⟩:=appN nodeT (by decide) 39 W B (.slice pL N cL6) N xs0 (owns_only (S:=[]) HTP.out.2.2.2.1 (Only.of hW) (by simp)) g7 [.int .i64 op,.int .i64 (ai:Int),.int .i64 BV,.int .i64 KV,.slice pa na ca,.slice pb nb cb] hg7 rfl HU1.out (by have:=hl.out;omega) (Nat.le_trans HTP.out.1 (Nat.le_trans (Nat.le_of_lt (heap_lt HTP.out.2.1)) (Below.size hW)))
     simp [leavesR,leavesUpon,execOp,resolve,invoke,builtin,Act.eval,e7,hr8,Result.andThen]
     exact ⟨ho8,grown_trans (below_grown _ hW) hgr8,hgr8⟩
    iterate 2
     (try simp only [putL])
     refine segQuiet rfl rfl ?_
     apply Exists.intro
     refine ⟨fun b F hF hf K hK=>?_,?_⟩
     ·have hFc:=hF.cls
      go_big_quiet_op
      exact hK
    (try simp only [putL])
    refine segEnd ?_
    exact rfl
   ·exact fun x=>rfl
   ·intro w8 xs8 hC8 hf8
    have hC8':w6.grownBy w8 (Value.ownBlock (.slice pL N cL6)):=hC8
    refine from_list 10 (by kernel_rfl) ?_
    simp only [List.drop_succ_cons,List.drop_zero]
    have h8:=hf8 _ (List.mem_cons_of_mem _ List.mem_cons_self)
    obtain ⟨x6,e6⟩:∃ z,xs8 6=z:=⟨_,rfl⟩
    obtain ⟨x7,e7⟩:∃ z,xs8 7=z:=⟨_,rfl⟩
    simp only [e7] at h8
    simp only [e6,e7]
    obtain ⟨g8,c8,rfl,_,_⟩:=World.ownsRow.form h8 (by omega)
    obtain ⟨hTp,hOn⟩:=Tap.push (TT:=41) (NT:=47) ne_nt (by decide) (by decide) (nd:=⟨op,(ai:Int),BV,KV,D,V⟩) HTP.out.1 HTP.out.2.1 (by rw [HTP.out.2.2.1];exact HTP.out.2.2.2.1) HTP.out.2.2.2.2 HND6.out hC8' (by rw [HTP.out.2.2.1];exact h8)
    have hv8:w8.heap[tb]?=some (.cells #[.slice pL N cL6] 41 (0,0)):=by
     rw [hC8'.block tb (heap_lt HTP.out.2.1) (Ne.symm (owned_off ne_nt HTP.out.2.1 HTP.out.2.2.2.1))]
     exact HTP.out.2.1
    obtain ⟨r0,r1⟩:=head_cell hv8
    have z0:=(head_cell (v:=.slice (some ⟨g8,0,none⟩) (N+1) c8) (e:=41) (W:=w8.setCell ⟨tb,0,none⟩ (.slice (some ⟨g8,0,none⟩) (N+1) c8)) (by rw [heap_setat hv8];rfl)).1
    have HF:Hid (Tap 41 47 (w8.setCell ⟨tb,0,none⟩ (.slice (some ⟨g8,0,none⟩) (N+1) c8)) B tb (ns++[⟨op,(ai:Int),BV,KV,D,V⟩])∧Below B w (w8.setCell ⟨tb,0,none⟩ (.slice (some ⟨g8,0,none⟩) (N+1) c8))∧Only [41,47] w (w8.setCell ⟨tb,0,none⟩ (.slice (some ⟨g8,0,none⟩) (N+1) c8))):=
     ⟨hTp,(Below.grown HB6.out.1 hC8' HB6.out.2.1 (OwnN_block HTP.out.2.2.2.1)).setCell (p:=⟨tb,0,none⟩) HTP.out.1 _,HB6.out.2.2.trans hOn⟩
    clear hTp hOn hC8 hC8' h8 hf8 hv8
    have hN1:((N+1:Nat):Int) - 1=(N:Int):=by omega
    have hN2:wrap64 (N:Int)=(N:Int):=by have:=hl.out;unfold wrap64;omega
    go_wp2
    exact bodyPost_ret (v:=.tuple #[.int .i64 (N:Int),.int .i64 0]) (by simp [results,Tryz.results34,go_sem,hN1,hN2]) rfl ⟨rfl,HF.out⟩
end Go.Proofs.YtpdkkcnmgiihcaaGreatDoor.Wd
