/- The code's Do where it comes to reckon. · The code's Do, whatever it is asked. · The code's tape: Len. · The code's losses: a step laid, all of them, rows that are made, what is asked first. -/
import Derived.Test.YtpdkkcnmgiihcaaGreatDoorP14
import Derived.Test.YtpdkkcnmgiihcaaGreatDoorP16
import Derived.Test.YtpdkkcnmgiihcaaGreatDoorP13
set_option linter.unusedVariables false
set_option linter.unusedSimpArgs false
set_option maxHeartbeats 16000000
set_option maxRecDepth 16000
namespace Go.Proofs.YtpdkkcnmgiihcaaGreatDoor.Wd
open Go.RowKit Fx
theorem cdo_ok (B tb:Nat) (ns:List Nd) (op:Int) (ai:Nat) (b k:Int) (nda:Nd) (hnda:ns[ai]?=some nda) (dB_ xB_:List Int) (BV KV:Int) (h2:(twoP op∧BV=b∧∃ (bi:Nat) (ndb:Nd),b=(bi:Int)∧ns[bi]?=some ndb∧dB_=ndb.D∧xB_=ndb.X)∨(¬ twoP op∧BV = -1∧dB_ = []∧xB_ = [])) (h3:(byP op∧KV=k)∨(¬ byP op∧KV=0)) (hroom:ns.length < 512) (E:Int) (D V:List Int) (RR:Int) (NS:List Nd) (HG:Hid ((E=0→RR=(ns.length:Int)∧NS=ns++[⟨op,(ai:Int),BV,KV,D,V⟩])∧(E≠0→RR=0∧NS=ns))) (w:World) (hT:TapC w B tb ns)
  (HR:Hid (∀ (W:World) (pA qA pB qB:Option Addr) (nA cA mA eA nB cB mB eB:Nat),Below w.heap.size w W→Nums .i64 W (.slice pA nA cA) nda.D→Nums .i64 W (.slice qA mA eA) nda.X→mA≤eA→Nums .i64 W (.slice pB nB cB) dB_→Nums .i64 W (.slice qB mB eB) xB_→Calls Tryz.prog 97 #[.int .i64 op,.agg #[.slice pA nA cA,.slice qA mA eA],.agg #[.slice pB nB cB,.slice qB mB eB],.int .i64 k] W fun e w'=>∃ v',e = .returned (.tuple #[v',.int .i64 E])∧TRes w' W.heap.size v' D V∧Below W.heap.size W w')):
  Calls Tryz.prog 73 #[.pointer (some ⟨tb,0,none⟩),.int .i64 op,.int .i64 (ai:Int),.int .i64 b,.int .i64 k] w fun e w'=>e = .returned (.tuple #[.int .i64 RR,.int .i64 E])∧TapC w' B tb NS∧Below B w w'∧Only SC w w'∧Spar2 tb w w':=by
 have hTT:Hid (TapC w B tb ns):=hT
 obtain ⟨pL,cL,xs0,hv,ho,hn0,hnc⟩:=Tap.head hT
 obtain ⟨N,eN⟩:∃ N,ns.length=N:=⟨_,rfl⟩
 rw [eN] at hv ho hnc
 have hcell:=(head_cell hv).1
 have hz:=heap_lt hv
 have HBB:Hid (B≤w.heap.size):=Nat.le_trans hTT.out.1 (Nat.le_of_lt hz)
 have hai:ai < N:=by rw [← eN];exact (List.getElem?_eq_some_iff.1 hnda).1
 obtain ⟨q,nda',sA_,tA_,eq,hx,_,_,_,_,ca4,ca5,hsA,htA⟩:=node_cells ho hn0 eN ai hai
 rw [hnda] at hx
 cases hx
 obtain ⟨pA,nA,cA,rfl⟩:=hsA.form_
 obtain ⟨qA,mA,eA,rfl⟩:=htA.form_
 have hf:decide (512≤ns.length)=false:=decide_eq_false (by omega)
 have ha:decide (0≤(ai:Int)∧(ai:Int) < (ns.length:Int))=true:=decide_eq_true (by omega)
 have a4:(ai:Int) < (N:Int):=by omega
 have HL:Hid (ns.length < 512):=hroom
 haveI:Nonempty World:=⟨w⟩
 have HCg:Hid (∀ (W:World) (pB qB:Option Addr) (nB cB mB eB:Nat),Below w.heap.size w W→Nums .i64 W (.slice pB nB cB) dB_→Nums .i64 W (.slice qB mB eB) xB_→Calls Tryz.prog 97 #[.int .i64 op,.agg #[.slice pA nA cA,.slice qA mA eA],.agg #[.slice pB nB cB,.slice qB mB eB],.int .i64 k] W fun e w'=>∃ v',e = .returned (.tuple #[v',.int .i64 E])∧TRes w' W.heap.size v' D V∧Below W.heap.size W w'):=fun W pB qB nB cB mB eB hW g1 g2=>HR.out W _ _ _ _ _ _ _ _ _ _ _ _ hW (hsA.nums.up hW) (htA.nums.up hW) htA.cap g1 g2
 clear hsA htA hnda HR hroom
 have HK3:Hid ((byP op∧KV=k)∨(¬ byP op∧KV=0)):=h3
 clear h3
 rcases h2 with ⟨h2,eV,bi,ndb,eb,hndb,ed,ex⟩|⟨h2,eV,ed,ex⟩
 case' inl=>
  subst eV
  have hbi:bi < N:=by rw [← eN];exact (List.getElem?_eq_some_iff.1 hndb).1
  obtain ⟨q',ndb',sB_,tB_,eq',hx,_,_,_,_,cb4,cb5,hsB,htB⟩:=node_cells ho hn0 eN bi hbi
  rw [hndb] at hx
  cases hx
  obtain ⟨pB,nB,cB,rfl⟩:=hsB.form_
  obtain ⟨qB,mB,eB,rfl⟩:=htB.form_
  rw [eq] at eq'
  cases eq'
  subst eq
  have HC:Hid (∀ W,Below w.heap.size w W→Calls Tryz.prog 97 #[.int .i64 op,.agg #[.slice pA nA cA,.slice qA mA eA],.agg #[.slice pB nB cB,.slice qB mB eB],.int .i64 k] W fun e w'=>∃ v',e = .returned (.tuple #[v',.int .i64 E])∧TRes w' W.heap.size v' D V∧Below W.heap.size W w'):=fun W hW=>HCg.out W _ _ _ _ _ _ hW (by rw [ed];exact hsB.nums.up hW) (by rw [ex];exact htB.nums.up hW)
  have hq:decide (twoP op)=true:=decide_eq_true h2
  have hb:decide (0≤BV∧BV < (ns.length:Int))=true:=decide_eq_true (by omega)
  have HWb:Hid (BV=(bi:Int)∧bi < N∧w.cell? ⟨q,bi*6+4,none⟩=some (.slice pB nB cB)∧w.cell? ⟨q,bi*6+5,none⟩=some (.slice qB mB eB)):=⟨eb,hbi,cb4,cb5⟩
  clear hsB htB hndb cb4 cb5 eb hbi ed ex
 case' inr=>
  subst eq
  obtain ⟨pB,nB,cB,qB,mB,eB,eY⟩:∃ (pB:Option Addr) (nB cB:Nat) (qB:Option Addr) (mB eB:Nat),(Value.slice none 0 0 = .slice pB nB cB∧Value.slice none 0 0 = .slice qB mB eB):=⟨_,_,_,_,_,_,rfl,rfl⟩
  have HC:Hid (∀ W,Below w.heap.size w W→Calls Tryz.prog 97 #[.int .i64 op,.agg #[.slice pA nA cA,.slice qA mA eA],.agg #[.slice pB nB cB,.slice qB mB eB],.int .i64 k] W fun e w'=>∃ v',e = .returned (.tuple #[v',.int .i64 E])∧TRes w' W.heap.size v' D V∧Below W.heap.size W w'):=fun W hW=>HCg.out W _ _ _ _ _ _ hW (by rw [ed,← eY.1];exact .inl ⟨rfl,rfl⟩) (by rw [ex,← eY.2];exact .inl ⟨rfl,rfl⟩)
  have hq:decide (twoP op)=false:=decide_eq_false h2
  have HY_:Hid (BV = -1∧(Value.slice none 0 0 = .slice pB nB cB∧Value.slice none 0 0 = .slice qB mB eB)):=⟨eV,eY⟩
  clear eY ed ex eV
 all_goals
  have hzq:=cell_lt ca4
  have HW:Hid (w.cell? ⟨tb,0,none⟩=some (.slice (some ⟨q,0,none⟩) N cL)∧w.cell? ⟨q,ai*6+4,none⟩=some (.slice pA nA cA)∧w.cell? ⟨q,ai*6+5,none⟩=some (.slice qA mA eA)):=⟨hcell,ca4,ca5⟩
  clear hT hv ho hn0 hnc ca4 ca5 hcell eN h2 HCg
  go_enter Tryz.func73,Tryz.ntmps73
  go_wp2_with fail
  refine (cfull_any B tb ns false hf w hTT.out).mono ?_
  rintro e w9 ⟨rfl,ew9⟩
  have ew:=ew9.symm
  subst ew
  clear ew9
  go_wp2_with fail
  refine (chas_any B tb ns (ai:Int) true ha w hTT.out).mono ?_
  rintro e w9 ⟨rfl,ew9⟩
  have ew:=ew9.symm
  subst ew
  clear ew9
  go_wp2_with fail
  refine (chasb_any op _ hq w).mono ?_
  rintro e w9 ⟨rfl,ew9⟩
  have ew:=ew9.symm
  subst ew
  clear ew9
  clear hf ha
 all_goals try
  have hb_:=hb
  clear hb_
  go_wp2_with fail
  refine (chas_any B tb ns BV true hb w hTT.out).mono ?_
  rintro e w9 ⟨rfl,ew9⟩
  have ew:=ew9.symm
  subst ew
  clear ew9
  clear hb
 all_goals
  go_wp2_with fail
  generalize hW0:World.alloc _ _=W0
  have HB0:Hid (Below w.heap.size w W0):=by show Below _ _ _;rw [← hW0];go_grown
  have HN0:W0.heap[w.heap.size]?=some (.cells #[.int .i64 op,.int .i64 (ai:Int),.int .i64 (-1),.int .i64 0,.slice none 0 0,.slice none 0 0] 44 (0,0)):=by
   rw [← hW0,heap_alloc_old _ _ (by rw [size_alloc];omega)]
   exact heap_alloc_new _ _
  have HY0:W0.heap[w.heap.size+1]?=some (.cells #[.slice none 0 0,.slice none 0 0] 31 (0,0)):=by
   rw [← hW0,← size_alloc w (.cells #[.int .i64 op,.int .i64 (ai:Int),.int .i64 (-1),.int .i64 0,.slice none 0 0,.slice none 0 0] 44)]
   exact heap_alloc_new _ _
  clear hW0
  refine (chasb_any op _ hq W0).mono ?_
  rintro e w9 ⟨rfl,ew9⟩
  have ew:=ew9.symm
  subst ew
  clear ew9 hq
  have n1:tb≠w.heap.size:=by omega
  have n2:tb≠w.heap.size+1:=by omega
  have n3:q≠w.heap.size:=by omega
  have n4:q≠w.heap.size+1:=by omega
 all_goals first
  |obtain ⟨eb,hbi,cb4,cb5⟩:=HWb.out
   subst eb
   have b4:(bi:Int) < (N:Int):=by omega
   have hc0:=cell_low HW.out.1 HB0.out
   replace cb4:=cell_low cb4 HB0.out
   replace cb5:=cell_low cb5 HB0.out
   have s0:=cell_lt hc0
   have s3:=cell_lt cb4
   obtain ⟨⟨_,_,k2,_,_,_⟩,kf⟩:=box6 HN0
   obtain ⟨l0,l1,l2,l3⟩:=new_cel HY0
   have s1:=heap_lt HN0
   have s2:=heap_lt HY0
   have kf2:=kf 2
   clear HWb hbi
   go_wp2_with fail
   go_region
   go_wp2_with fail
   generalize hW1:World.drew _=W1
   have HN1:W1.heap[w.heap.size]?=some (.cells #[.int .i64 op,.int .i64 (ai:Int),.int .i64 (bi:Int),.int .i64 0,.slice none 0 0,.slice none 0 0] 44 (0,0)):=by
    rw [← hW1]
    show (World.setCell _ _ _).heap[w.heap.size]?=_
    rw [heap_set _ _ _ _ _ (by omega),heap_set _ _ _ _ _ (by omega),heap_setat HN0]
    rfl
   have HY1:W1.heap[w.heap.size+1]?=some (.cells #[.slice pB nB cB,.slice qB mB eB] 31 (0,0)):=by
    have h0:(W0.setCell ⟨w.heap.size,2,none⟩ (.int .i64 (bi:Int))).heap[w.heap.size+1]?=some (.cells #[.slice none 0 0,.slice none 0 0] 31 (0,0)):=by
     rw [heap_set _ _ _ _ _ (by omega)]
     exact HY0
    rw [← hW1]
    show (World.setCell _ _ _).heap[w.heap.size+1]?=_
    rw [heap_setat (heap_setat h0)]
    rfl
   have HB1:Hid (Below w.heap.size w W1):=by
    show Below _ _ _
    rw [← hW1]
    exact (((HB0.out.setCell (p:=⟨w.heap.size,2,none⟩) (Nat.le_refl _) _).setCell (p:=⟨w.heap.size+1,0,none⟩) (Nat.le_succ _) _).setCell (p:=⟨w.heap.size+1,1,none⟩) (Nat.le_succ _) _).trans ⟨rfl,rfl,rfl,Nat.le_refl _,fun _ _=>rfl⟩
   obtain ⟨BV,eBV⟩:∃ z,(bi:Int)=z:=⟨_,rfl⟩
   rw [eBV] at HN1 HG
   clear hW1 k2 kf kf2 l0 l1 l2 l3 s0 s1 s2 s3 hc0 cb4 cb5 HN0 HY0 HB0
  |go_wp2_with fail
   obtain ⟨W1,eW1⟩:∃ W1:World,W1=W0:=⟨_,rfl⟩
   rw [← eW1]
   rw [← eW1] at HN0 HY0 HB0
   have HN1:W1.heap[w.heap.size]?=some (.cells #[.int .i64 op,.int .i64 (ai:Int),.int .i64 BV,.int .i64 0,.slice none 0 0,.slice none 0 0] 44 (0,0)):=by rw [HY_.out.1];exact HN0
   have HY1:W1.heap[w.heap.size+1]?=some (.cells #[.slice pB nB cB,.slice qB mB eB] 31 (0,0)):=by
    rw [← HY_.out.2.1,← HY_.out.2.2]
    exact HY0
   have HB1:=HB0
   clear HN0 HY0 HB0 eW1 HY_
 all_goals
  rcases HK3.out with ⟨h3,eK⟩|⟨h3,eK⟩
  case' inl=>
   subst eK
   refine (chask_any op true (decide_eq_true h3) W1).mono ?_
   rintro e w9 ⟨rfl,ew9⟩
   have ew:=ew9.symm
   subst ew
   clear ew9 h3
   obtain ⟨⟨_,_,_,k3,_,_⟩,kf⟩:=box6 HN1
   have s1:=heap_lt HN1
   go_wp2_with fail
   refine name_world (fun W2 hW2=>?_)
   have HN2:W2.heap[w.heap.size]?=some (.cells #[.int .i64 op,.int .i64 (ai:Int),.int .i64 BV,.int .i64 KV,.slice none 0 0,.slice none 0 0] 44 (0,0)):=by
    rw [hW2,heap_setat HN1]
    rfl
   have HY2:W2.heap[w.heap.size+1]?=some (.cells #[.slice pB nB cB,.slice qB mB eB] 31 (0,0)):=by
    rw [hW2,heap_set _ _ _ _ _ (by omega)]
    exact HY1
   have HB2:Hid (Below w.heap.size w W2):=by
    show Below _ _ _
    rw [hW2]
    exact HB1.out.setCell (p:=⟨w.heap.size,3,none⟩) (Nat.le_refl _) _
   clear k3 kf s1
  case' inr=>
   refine (chask_any op false (decide_eq_false h3) W1).mono ?_
   rintro e w9 ⟨rfl,ew9⟩
   have ew:=ew9.symm
   subst ew
   clear ew9 h3
   go_wp2_with fail
   refine name_world (fun W2 hW2=>?_)
   have HN2:W2.heap[w.heap.size]?=some (.cells #[.int .i64 op,.int .i64 (ai:Int),.int .i64 BV,.int .i64 KV,.slice none 0 0,.slice none 0 0] 44 (0,0)):=by rw [hW2,eK];exact HN1
   have HY2:W2.heap[w.heap.size+1]?=some (.cells #[.slice pB nB cB,.slice qB mB eB] 31 (0,0)):=by rw [hW2];exact HY1
   have HB2:Hid (Below w.heap.size w W2):=by show Below _ _ _;rw [hW2];exact HB1.out
   clear eK
  all_goals
   clear hW2 HN1 HY1 HB1 HK3
   have hc0:=cell_low HW.out.1 HB2.out
   have ca4:=cell_low HW.out.2.1 HB2.out
   have ca5:=cell_low HW.out.2.2 HB2.out
   obtain ⟨y0,y1,_,_⟩:=new_cel HY2
   have s0:=cell_lt hc0
   have s1:=heap_lt HN2
   have s2:=heap_lt HY2
   have s3:=cell_lt ca4
   refine relE [⟨11,62,TupP W2.heap.size D V E⟩,⟨12,50,TupP W2.heap.size D V E⟩,⟨13,63,OwnT W2.heap.size D V⟩] 16 72 (by kernel_rfl) rfl rfl 14 _ rfl (by decide) rfl (by kernel_rfl) (by kernel_rfl) (fun _ _ _ _ h=>h) (by rfl) ?_ ?_
   ·intro e he v W W' h hb
    simp only [List.mem_cons,List.not_mem_nil,or_false] at he
    rcases he with rfl|rfl|rfl
    ·exact TupP.up h hb
    ·exact TupP.up h hb
    ·exact OwnT.up h hb
   apply Exists.intro
   refine ⟨?_,?_,?_,?_⟩
   rotate_left
   ·intro x
    simp only [List.take_succ_cons,List.take_zero]
    iterate 11
     refine relQuiet rfl rfl ?_
     apply Exists.intro
     refine ⟨fun F hF hf K hK=>?_,?_⟩
     ·have hFc:=hF.cell
      have hFf:=hF.frozen
      go_big_quiet_op
      exact hK
     (try simp only [putL])
    refine relTold rfl rfl ?_ ?_
    ·intro F hF hf d
     have hFc:=hF.cell
     have hFf:=hF.frozen
     simp [yieldsR,yieldsUpon,go_sem]
     refine (HC.out (F d) (bstep HB2.out (hF.below d))).mono ?_
     rintro e' w8 ⟨v8,rfl,h8,hb8⟩
     exact ⟨_,rfl,⟨v8,rfl,(h8.low (hF.below d).size).own⟩,hb8⟩
    (try simp only [putL])
    refine relTold rfl rfl ?_ ?_
    ·intro F hF hf d
     have hFc:=hF.cell
     have hFf:=hF.frozen
     have h9:=hf _ List.mem_cons_self (by rfl) d
     simp [yieldsR,yieldsUpon,go_sem]
     exact ⟨h9,Below.refl _ _⟩
    (try simp only [putL])
    refine relTold rfl rfl ?_ ?_
    ·intro F hF hf d
     have hFc:=hF.cell
     have hFf:=hF.frozen
     have h9:=hf _ (List.mem_cons_of_mem _ List.mem_cons_self) (by rfl) d
     obtain ⟨u9,e9,n9⟩:=h9
     simp only [] at e9 n9
     simp [yieldsR,yieldsUpon,go_sem,e9]
     exact ⟨n9,Below.refl _ _⟩
    (try simp only [putL])
    refine relQuiet rfl rfl ?_
    apply Exists.intro
    refine ⟨fun F hF hf K hK=>?_,?_⟩
    ·have hFc:=hF.cell
     have hFf:=hF.frozen
     have h9:=hf _ (List.mem_cons_of_mem _ List.mem_cons_self) (by rfl)
     obtain ⟨u9,e9,_⟩:=h9 w
     simp only [] at e9
     go_big_quiet_op
     exact hK
    (try simp only [putL])
    refine relQuiet rfl rfl ?_
    apply Exists.intro
    refine ⟨fun F hF hf K hK=>?_,?_⟩
    ·have hFc:=hF.cell
     have hFf:=hF.frozen
     go_big_quiet_op
     exact hK
    (try simp only [putL])
    refine relEnd ?_
    exact rfl
   ·intro x
    simp only [putsK,List.foldl_cons,List.foldl_nil,Act.put,List.setIfInBounds_toArray,List.set_cons_zero,List.set_cons_succ]
   rotate_left
   ·intro x hx
    obtain ⟨W9,u9,e9,_⟩:=hx _ (List.mem_cons_of_mem _ List.mem_cons_self) (by rfl)
    simp only [] at e9
    refine ⟨.int .i64 E,fun t ht=>?_,.inl ⟨by rfl,fun w=>?_⟩⟩
    ·cases ht
     rfl
    ·simp [execOp,Act.eval,e9,go_sem]
   intro w3 xs3 hB3 hf
   simp only [List.drop_succ_cons,List.drop_zero]
   have hT1:=hf _ (List.mem_cons_of_mem _ (List.mem_cons_of_mem _ List.mem_cons_self))
   obtain ⟨x11,e11⟩:∃ z,xs3 11=z:=⟨_,rfl⟩
   obtain ⟨x12,e12⟩:∃ z,xs3 12=z:=⟨_,rfl⟩
   obtain ⟨x13,e13⟩:∃ z,xs3 13=z:=⟨_,rfl⟩
   simp only [e13] at hT1
   simp only [e11,e12,e13]
   clear e11 e12 e13 hf hc0 ca4 ca5 y0 y1 s0 s1 s2 s3
   obtain ⟨pa,na,ca,pb,nb,cb,rfl,hs0,ht0⟩:=hT1
   have HB3:Hid (Below w.heap.size w w3):=bstep HB2.out hB3
   have HN3:w3.heap[w.heap.size]?=some (.cells #[.int .i64 op,.int .i64 (ai:Int),.int .i64 BV,.int .i64 KV,.slice none 0 0,.slice none 0 0] 44 (0,0)):=by rw [hB3.block _ (heap_lt HN2)];exact HN2
   obtain ⟨⟨_,_,_,_,k4,k5⟩,kf⟩:=box6 HN3
   have s1:=heap_lt HN3
   have HN6:Hid (((w3.setCell ⟨w.heap.size,4,none⟩ (.slice pa na ca)).setCell ⟨w.heap.size,5,none⟩ (.slice pb nb cb)).heap[w.heap.size]?=some (.cells #[.int .i64 op,.int .i64 (ai:Int),.int .i64 BV,.int .i64 KV,.slice pa na ca,.slice pb nb cb] 44 (0,0))):=by
    show _=_
    rw [heap_setat (heap_setat HN3)]
    rfl
   have HB6:Hid (Below w.heap.size w ((w3.setCell ⟨w.heap.size,4,none⟩ (.slice pa na ca)).setCell ⟨w.heap.size,5,none⟩ (.slice pb nb cb))):=(HB3.out.setCell (p:=⟨w.heap.size,4,none⟩) (Nat.le_refl _) _).setCell (p:=⟨w.heap.size,5,none⟩) (Nat.le_refl _) _
   have o6:Only [44] w3 ((w3.setCell ⟨w.heap.size,4,none⟩ (.slice pa na ca)).setCell ⟨w.heap.size,5,none⟩ (.slice pb nb cb)):=(Only.set HN3 (by simp)).trans (Only.set (heap_setat HN3) (by simp))
   have hlow:B≤W2.heap.size:=Nat.le_trans HBB.out HB2.out.size
   have HO:Hid (OwnK .i64 3 ((w3.setCell ⟨w.heap.size,4,none⟩ (.slice pa na ca)).setCell ⟨w.heap.size,5,none⟩ (.slice pb nb cb)) B (.slice pa na ca) D∧OwnK .i64 33 ((w3.setCell ⟨w.heap.size,4,none⟩ (.slice pa na ca)).setCell ⟨w.heap.size,5,none⟩ (.slice pb nb cb)) B (.slice pb nb cb) V∧OwnK .i64 3 ((w3.setCell ⟨w.heap.size,4,none⟩ (.slice pa na ca)).setCell ⟨w.heap.size,5,none⟩ (.slice pb nb cb)) w.heap.size (.slice pa na ca) D):=⟨(hs0.only o6 (by decide)).low hlow,(ht0.only o6 (by decide)).low hlow,(hs0.only o6 (by decide)).low HB2.out.size⟩
   clear HC HN2 HY2 HB2 hs0 ht0 hB3 HN3 o6 hlow HB3
   by_cases hE:E=0
   case neg=>
    have hE':(E != 0)=true:=by simpa using hE
    obtain ⟨g1,g2⟩:=HG.out.2 hE
    subst g1 g2
    clear HG hE HO HN6
    go_wp2
    exact bodyPost_ret (v:=.tuple #[.int .i64 0,.int .i64 E]) (by simp [results,Tryz.results73,go_sem]) rfl ⟨rfl,hTT.out.up HB6.out,HB6.out.mono HBB.out,Only.of HB6.out,Spar2.of HB6.out⟩
   subst hE
   obtain ⟨g1,g2⟩:=HG.out.1 rfl
   subst g1 g2
   clear HG
   go_wp2_with fail
   refine (ckeep_sp B tb ns ⟨op,(ai:Int),BV,KV,D,V⟩ pa pb na ca nb cb HL.out _ (hTT.out.up HB6.out) HO.out.1 HO.out.2.1).mono ?_
   rintro e w7 ⟨rfl,hT7,hB7,hO7,hS7⟩
   have HF:Hid (TapC w7 B tb (ns++[⟨op,(ai:Int),BV,KV,D,V⟩])∧Below B w w7∧Only SC w w7∧Spar2 tb w w7):=⟨hT7,below_two (HB6.out.mono HBB.out) hB7,(Only.of HB6.out).trans hO7,Spar2.kept HB6.out hS7 HO.out.2.2⟩
   clear hT7 hB7 hO7 hS7 HO k4 k5 kf s1 HN6
   go_wp2
   exact bodyPost_ret (v:=.tuple #[.int .i64 (ns.length:Int),.int .i64 0]) (by simp [results,Tryz.results73,go_sem]) rfl ⟨rfl,HF.out⟩
theorem rk_k {op:Int} (h:¬ byP op) (D X D' X':List Int) (k:Int):rkE op D X D' X' k=rkE op D X D' X' 0∧rkD op D X D' X' k=rkD op D X D' X' 0∧rkV op D X D' X' k=rkV op D X D' X' 0:=by
 have n5:op≠5:=fun e=>h (.inl e)
 have n8:op≠8:=fun e=>h (.inr (.inl e))
 have n11:op≠11:=fun e=>h (.inr (.inr (.inl e)))
 have n12:op≠12:=fun e=>h (.inr (.inr (.inr (.inl e))))
 have n13:op≠13:=fun e=>h (.inr (.inr (.inr (.inr e))))
 unfold rkE rkD rkV
 simp only [if_neg n5,if_neg n8,if_neg n11,if_neg n12,if_neg n13]
 exact ⟨trivial,trivial,trivial⟩
theorem cdo_full (B tb:Nat) (ns:List Nd) (hG:NodesG ns) (op a b k:Int) (hk:InR op∧InR a∧InR b∧InR k) (w:World) (hT:TapC w B tb ns) (hfull:512≤ns.length):
  Calls Tryz.prog 73 #[.pointer (some ⟨tb,0,none⟩),.int .i64 op,.int .i64 a,.int .i64 b,.int .i64 k] w fun e w'=>e = .returned (.tuple #[.int .i64 (doR ns op a b k),.int .i64 (doE ns op a b k)])∧TapC w' B tb (doN ns op a b k)∧Below B w w'∧Only SC w w'∧Spar2 tb w w':=by
 have hTT:Hid (TapC w B tb ns):=hT
 have hf:decide (512≤ns.length)=true:=decide_eq_true hfull
 have e1:doE ns op a b k=2:=if_pos hfull
 have e2:doR ns op a b k=0:=if_neg fun h=>by have:=h.1.1;omega
 have e3:doN ns op a b k=ns:=if_neg fun h=>by have:=h.1.1;omega
 rw [e1,e2,e3]
 clear e1 e2 e3 hfull hT hk
 go_enter Tryz.func73,Tryz.ntmps73
 go_wp2_with fail
 refine (cfull_any B tb ns true hf w hTT.out).mono ?_
 rintro e w9 ⟨rfl,ew9⟩
 have ew:=ew9.symm
 subst ew
 clear ew9
 clear hf
 go_wp2
 exact bodyPost_ret (v:=.tuple #[.int .i64 0,.int .i64 2]) (by simp [results,Tryz.results73,go_sem]) rfl ⟨rfl,hTT.out,Below.refl _ _,Only.refl _ _,Spar2.of (Below.refl _ _)⟩
theorem cdo_bad (B tb:Nat) (ns:List Nd) (hG:NodesG ns) (op a b k:Int) (hk:InR op∧InR a∧InR b∧InR k) (w:World) (hT:TapC w B tb ns) (hroom:ns.length < 512) (hno:¬ ((0≤a∧a < (ns.length:Int))∧(twoP op→0≤b∧b < (ns.length:Int)))):
  Calls Tryz.prog 73 #[.pointer (some ⟨tb,0,none⟩),.int .i64 op,.int .i64 a,.int .i64 b,.int .i64 k] w fun e w'=>e = .returned (.tuple #[.int .i64 (doR ns op a b k),.int .i64 (doE ns op a b k)])∧TapC w' B tb (doN ns op a b k)∧Below B w w'∧Only SC w w'∧Spar2 tb w w':=by
 have hTT:Hid (TapC w B tb ns):=hT
 have hf:decide (512≤ns.length)=false:=decide_eq_false (by omega)
 have ho:¬ okD ns op a b:=fun h=>hno h.2
 have e1:doE ns op a b k=1:=(if_neg (by omega)).trans (if_neg ho)
 have e2:doR ns op a b k=0:=if_neg fun h=>ho h.1.2
 have e3:doN ns op a b k=ns:=if_neg fun h=>ho h.1.2
 rw [e1,e2,e3]
 clear e1 e2 e3 hT hk ho hroom
 by_cases ha:0≤a∧a < (ns.length:Int)
 ·have h2:twoP op∧¬ (0≤b∧b < (ns.length:Int)):=by
   by_cases h2:twoP op
   ·exact ⟨h2,fun hb=>hno ⟨ha,fun _=>hb⟩⟩
   ·exact absurd ⟨ha,fun h=>absurd h h2⟩ hno
  have hq:decide (twoP op)=true:=decide_eq_true h2.1
  have hb:decide (0≤b∧b < (ns.length:Int))=false:=decide_eq_false h2.2
  have ha':decide (0≤a∧a < (ns.length:Int))=true:=decide_eq_true ha
  clear h2 ha hno
  go_enter Tryz.func73,Tryz.ntmps73
  go_wp2_with fail
  refine (cfull_any B tb ns false hf w hTT.out).mono ?_
  rintro e w9 ⟨rfl,ew9⟩
  have ew:=ew9.symm
  subst ew
  clear ew9
  go_wp2_with fail
  refine (chas_any B tb ns a true ha' w hTT.out).mono ?_
  rintro e w9 ⟨rfl,ew9⟩
  have ew:=ew9.symm
  subst ew
  clear ew9
  go_wp2_with fail
  refine (chasb_any op true hq w).mono ?_
  rintro e w9 ⟨rfl,ew9⟩
  have ew:=ew9.symm
  subst ew
  clear ew9
  go_wp2_with fail
  refine (chas_any B tb ns b false hb w hTT.out).mono ?_
  rintro e w9 ⟨rfl,ew9⟩
  have ew:=ew9.symm
  subst ew
  clear ew9
  clear hf hq hb ha'
  go_wp2
  exact bodyPost_ret (v:=.tuple #[.int .i64 0,.int .i64 1]) (by simp [results,Tryz.results73,go_sem]) rfl ⟨rfl,hTT.out,Below.refl _ _,Only.refl _ _,Spar2.of (Below.refl _ _)⟩
 ·have ha':decide (0≤a∧a < (ns.length:Int))=false:=decide_eq_false ha
  clear ha hno
  go_enter Tryz.func73,Tryz.ntmps73
  go_wp2_with fail
  refine (cfull_any B tb ns false hf w hTT.out).mono ?_
  rintro e w9 ⟨rfl,ew9⟩
  have ew:=ew9.symm
  subst ew
  clear ew9
  go_wp2_with fail
  refine (chas_any B tb ns a false ha' w hTT.out).mono ?_
  rintro e w9 ⟨rfl,ew9⟩
  have ew:=ew9.symm
  subst ew
  clear ew9
  clear hf ha'
  go_wp2
  exact bodyPost_ret (v:=.tuple #[.int .i64 0,.int .i64 1]) (by simp [results,Tryz.results73,go_sem]) rfl ⟨rfl,hTT.out,Below.refl _ _,Only.refl _ _,Spar2.of (Below.refl _ _)⟩
theorem cdo_sp (B tb:Nat) (ns:List Nd) (hG:NodesG ns) (op a b k:Int) (hRk:RkC op) (hk:InR op∧InR a∧InR b∧InR k) (w:World) (hT:TapC w B tb ns) (hTz:Hid (Tz w)):
  Calls Tryz.prog 73 #[.pointer (some ⟨tb,0,none⟩),.int .i64 op,.int .i64 a,.int .i64 b,.int .i64 k] w fun e w'=>e = .returned (.tuple #[.int .i64 (doR ns op a b k),.int .i64 (doE ns op a b k)])∧TapC w' B tb (doN ns op a b k)∧Below B w w'∧Only SC w w'∧Spar2 tb w w':=by
 by_cases hf:512≤ns.length
 ·exact cdo_full B tb ns hG op a b k hk w hT hf
 by_cases hno:(0≤a∧a < (ns.length:Int))∧(twoP op→0≤b∧b < (ns.length:Int))
 case neg=>exact cdo_bad B tb ns hG op a b k hk w hT (by omega) hno
 obtain ⟨ai,rfl⟩:∃ i:Nat,a=i:=⟨a.toNat,by have:=hno.1;omega⟩
 have hai:ai < ns.length:=by have:=hno.1;omega
 obtain ⟨nda,hnda⟩:∃ nd,ns[ai]?=some nd:=⟨_,List.getElem?_eq_getElem hai⟩
 have hga:TnsG nda.D nda.X:=hG nda (nd_mem hnda)
 have ena:=nd_at hnda
 obtain ⟨E,eE⟩:∃ E,rqE op nda.D nda.X (dD ns op b) (dX ns op b) k=E:=⟨_,rfl⟩
 obtain ⟨D,eD⟩:∃ E,rqD op nda.D nda.X (dD ns op b) (dX ns op b) k=E:=⟨_,rfl⟩
 obtain ⟨V,eV⟩:∃ E,rqV op nda.D nda.X (dD ns op b) (dX ns op b) k=E:=⟨_,rfl⟩
 have hkk:rkE op nda.D nda.X (dD ns op b) (dX ns op b) k=rkE op nda.D nda.X (dD ns op b) (dX ns op b) (dK op k)∧rkD op nda.D nda.X (dD ns op b) (dX ns op b) k=rkD op nda.D nda.X (dD ns op b) (dX ns op b) (dK op k)∧rkV op nda.D nda.X (dD ns op b) (dX ns op b) k=rkV op nda.D nda.X (dD ns op b) (dX ns op b) (dK op k):=by
  unfold dK
  by_cases h:byP op
  ·rw [if_pos h];exact ⟨rfl,rfl,rfl⟩
  ·rw [if_neg h];exact rk_k h _ _ _ _ _
 have hE1:doE ns op (ai:Int) b k=E:=by
  refine (if_neg (by omega)).trans ?_
  rw [← eE]
  unfold rqE
  by_cases ho:2≤op∧op≤14
  ·rw [if_pos ho,if_pos ⟨ho,hno⟩]
   unfold dE
   rw [ena,hkk.1]
  ·rw [if_neg ho,if_neg fun h=>ho h.1]
 have hEok:E=0→2≤op∧op≤14:=fun h=>by
  by_cases ho:2≤op∧op≤14
  ·exact ho
  ·rw [← eE] at h
   unfold rqE at h
   rw [if_neg ho] at h
   cases h
 rw [hE1]
 obtain ⟨RR,eR⟩:∃ R,doR ns op (ai:Int) b k=R:=⟨_,rfl⟩
 obtain ⟨NS,eS⟩:∃ R,doN ns op (ai:Int) b k=R:=⟨_,rfl⟩
 rw [eR,eS]
 have HG0:(E=0→RR=(ns.length:Int)∧NS=ns++[⟨op,(ai:Int),dB op b,dK op k,D,V⟩])∧(E≠0→RR=0∧NS=ns):=by
  rw [← eR,← eS]
  refine ⟨fun h=>?_,fun h=>?_⟩
  ·have ho:=hEok h
   have hP:doP ns op (ai:Int) b k:=⟨⟨by omega,ho,hno⟩,by rw [← hE1] at h;unfold doE at h;rw [if_neg hf,if_pos ⟨ho,hno⟩] at h;exact h⟩
   refine ⟨if_pos hP,(if_pos hP).trans ?_⟩
   unfold dN
   rw [ena,← hkk.2.1,← hkk.2.2,← eD,← eV]
   unfold rqD rqV
   rw [if_pos ho,if_pos ho]
  ·have hP:¬ doP ns op (ai:Int) b k:=fun h'=>h (by
    have h2:=hE1
    unfold doE at h2
    rw [if_neg hf,if_pos h'.1.2] at h2
    rw [← h2]
    exact h'.2)
   exact ⟨if_neg hP,if_neg hP⟩
 have hroom:ns.length < 512:=by omega
 have hgb:RI (dD ns op b)∧RI (dX ns op b):=by
  unfold dD dX
  by_cases h2:twoP op
  ·rw [if_pos h2,if_pos h2]
   exact (hG.at (hno.2 h2).1 (hno.2 h2).2).2
  ·rw [if_neg h2,if_neg h2]
   exact ⟨fun y hy=>by simp at hy,fun y hy=>by simp at hy⟩
 refine cdo_ok B tb ns op ai b k nda hnda (dD ns op b) (dX ns op b) (dB op b) (dK op k) ?_ ?_ hroom E D V RR NS HG0 w hT ?_
 ·by_cases h2:twoP op
  ·have hb:=hno.2 h2
   obtain ⟨bi,rfl⟩:∃ i:Nat,b=i:=⟨b.toNat,by omega⟩
   obtain ⟨ndb,hndb⟩:∃ nd,ns[bi]?=some nd:=⟨_,List.getElem?_eq_getElem (by omega)⟩
   have enb:=nd_at hndb
   exact .inl ⟨h2,if_pos h2,bi,ndb,rfl,hndb,(if_pos h2).trans (by rw [enb]),(if_pos h2).trans (by rw [enb])⟩
  ·exact .inr ⟨h2,if_neg h2,if_neg h2,if_neg h2⟩
 ·by_cases h3:byP op
  ·exact .inl ⟨h3,if_pos h3⟩
  ·exact .inr ⟨h3,if_neg h3⟩
 intro W pA qA pB qB nA cA mA eA nB cB mB eB hW g1 g2 g3 g4 g5
 rw [← eE,← eD,← eV]
 exact hRk pA qA pB qB nA cA mA eA nB cB mB eB _ _ _ _ k hk.2.2.2 hga hgb.1 hgb.2 g3 W (Hid.up_tz hTz hW) g1 g2 g4 g5
theorem clen_any (B tb:Nat) (ns:List Nd) (w:World) (hT:TapC w B tb ns):Calls Tryz.prog 22 #[.pointer (some ⟨tb,0,none⟩)] w fun e w'=>e = .returned (.int .i64 (ns.length:Int))∧w'=w:=by
 have hTT:Hid (TapC w B tb ns):=hT
 obtain ⟨pL,cL,xs0,hv,ho,hn0,hnc⟩:=Tap.head hT
 obtain ⟨N,eN⟩:∃ N,ns.length=N:=⟨_,rfl⟩
 rw [eN] at hv ho hnc
 have hcell:=(head_cell hv).1
 have hz:=heap_lt hv
 rw [eN]
 clear hT hTT hv ho hn0 hnc eN
 go_enter Tryz.func22,Tryz.ntmps22
 go_wp2
 go_ret
 exact ⟨rfl,rfl⟩
/-- Numbers that a tape's change leaves as they are. -/
def KeptL (B:Nat) (W:World) (v:Value) (l:List Int):Prop:=∀ W',Below B W W'→Only SC W W'→Nums .i64 W' v l
theorem KeptL.up {B:Nat} {W W':World} {v:Value} {l:List Int} (h:KeptL B W v l) (hB:Below B W W') (hO:Only SC W W'):KeptL B W' v l:=fun W2 h2 o2=>h W2 (hB.trans h2) (hO.trans o2)
theorem KeptL.nums {B:Nat} {W:World} {v:Value} {l:List Int} (h:KeptL B W v l):Nums .i64 W v l:=h W (Below.refl _ _) (Only.refl _ _)
theorem OwnK.keptL {e:TypeId} {B B':Nat} {W:World} {v:Value} {l:List Int} (h:OwnK .i64 e W B' v l) (he:e∉SC):KeptL B W v l:=fun W' _ hO=>(h.only hO he).nums
theorem KeptL.arg {B:Nat} {w W:World} {v:Value} {l:List Int} (h:Nums .i64 w v l) (hB:w.heap.size≤B) (hW:Below w.heap.size w W):KeptL B W v l:=fun W' hb _=>h.up (hW.trans (hb.mono hB))
theorem KeptL.nil (B:Nat) (W:World):KeptL B W (.slice none 0 0) []:=fun _ _ _=>.inl ⟨rfl,rfl⟩
/-- A step that may be laid. -/
structure StpOk (s:Nd):Prop where
 r:InR s.op∧InR s.a∧InR s.b∧InR s.k
 D:RI s.D
 X:RI s.X
 c:s.op≠1→RkC s.op
theorem rk_loss {op:Int} (h:op=2∨op=3∨op=4∨op=9∨op=10∨op=11):RkC op:=by
 rcases h with rfl|rfl|rfl|rfl|rfl|rfl
 ·exact RkC.of (by omega) ck2
 ·exact RkC.of (by omega) ck3
 ·exact RkC.of (by omega) ck4
 ·exact RkC.of (by omega) ck9
 ·exact RkC.of (by omega) ck10
 ·exact RkC.of (by omega) ck11
theorem stp_op {op a b k:Int} (h:op=2∨op=3∨op=4∨op=9∨op=10∨op=11) (ha:InR a) (hb:InR b) (hk:InR k):StpOk (opS op a b k):=⟨⟨by show InR op;unfold InR;omega,ha,hb,hk⟩,RI_nil,RI_nil,fun _=>rk_loss h⟩
theorem stp_leaf {y:List Int} (hy:RI y) (hl:y.length≤4096):StpOk (lfS y):=by
 refine ⟨⟨by show InR 1;unfold InR;omega,by show InR 0;unfold InR;omega,by show InR 0;unfold InR;omega,by show InR 0;unfold InR;omega⟩,fun z hz=>?_,hy,fun h=>absurd rfl h⟩
 have:z=(y.length:Int):=by simpa [lfS] using hz
 subst this
 omega
theorem clayone_any (B tb:Nat) (ns:List Nd) (hG:NodesG ns) (s:Nd) (hok:StpOk s) (p:Option Addr) (n c:Nat) (p2:Option Addr) (n2 c2:Nat) (w:World) (hT:TapC w B tb ns) (hTz:Hid (Tz w)) (h1:Nums .i64 w (.slice p n c) s.D) (h2:Nums .i64 w (.slice p2 n2 c2) s.X):
  Calls Tryz.prog 46 #[.pointer (some ⟨tb,0,none⟩),.agg #[.int .i64 s.op,.int .i64 s.a,.int .i64 s.b,.int .i64 s.k,.slice p n c,.slice p2 n2 c2]] w fun e w'=>e = .returned (.tuple #[.int .i64 (lsR ns s),.int .i64 (lsE ns s)])∧TapC w' B tb (lsN ns s)∧Below B w w'∧Only SC w w'∧Spar2 tb w w':=by
 obtain ⟨op,a,b,k,D,X⟩:=s
 obtain ⟨hr,rD,rX,hRk⟩:=hok
 simp only [] at hr rD rX h1 h2 hRk ⊢
 obtain ⟨R,eR⟩:∃ R,lsR ns ⟨op,a,b,k,D,X⟩=R:=⟨_,rfl⟩
 obtain ⟨E,eE⟩:∃ R,lsE ns ⟨op,a,b,k,D,X⟩=R:=⟨_,rfl⟩
 obtain ⟨NS,eN⟩:∃ R,lsN ns ⟨op,a,b,k,D,X⟩=R:=⟨_,rfl⟩
 rw [eR,eE,eN]
 have HZ:Hid (B≤w.heap.size):=by
  obtain ⟨hb,v,xs,hv,_⟩:=hT
  exact Nat.le_trans hb (Nat.le_of_lt (heap_lt hv))
 by_cases h0:op=1
 ·subst h0
  have cl:Hid (∀ W,Below w.heap.size w W→Calls Tryz.prog 10 #[.pointer (some ⟨tb,0,none⟩),.agg #[.slice p n c,.slice p2 n2 c2]] W fun e w'=>e = .returned (.tuple #[.int .i64 R,.int .i64 E])∧TapC w' B tb NS∧Below B W w'∧Only SC W w'∧Spar2 tb W w'):=fun W hW=>by
   have:=cleaf_sp B tb ns hG p p2 n c n2 c2 D X rD rX W (hT.up hW) (h1.up hW) (h2.up hW)
   rw [← eR,← eE,← eN]
   exact this
  clear eR eE eN hT h1 h2 hRk rD rX hr
  go_enter Tryz.func46,Tryz.ntmps46
  go_wp2_with fail
  generalize hW0:World.alloc _ _=W0
  have HB0:Hid (Below w.heap.size w W0):=by rw [← hW0];exact up_alloc w _
  clear hW0
  refine (cl.out W0 HB0.out).mono ?_
  rintro e w1 ⟨rfl,hT1,hB1,hO1,hS1⟩
  have HF:Hid (TapC w1 B tb NS∧Below B w w1∧Only SC w w1∧Spar2 tb w w1):=⟨hT1,(HB0.out.mono HZ.out).trans hB1,(Only.of HB0.out).trans hO1,Spar2.trans (Spar2.of HB0.out) hS1 HB0.out.size⟩
  clear hT1 hB1 hO1 hS1 cl
  go_wp2
  go_ret2
  exact ⟨rfl,HF.out⟩
 ·have h0':(op==1)=false:=by simpa using h0
  have cd:Hid (∀ W,Below w.heap.size w W→Calls Tryz.prog 73 #[.pointer (some ⟨tb,0,none⟩),.int .i64 op,.int .i64 a,.int .i64 b,.int .i64 k] W fun e w'=>e = .returned (.tuple #[.int .i64 R,.int .i64 E])∧TapC w' B tb NS∧Below B W w'∧Only SC W w'∧Spar2 tb W w'):=fun W hW=>by
   have:=cdo_sp B tb ns hG op a b k (hRk h0) hr W (hT.up hW) (Hid.up_tz hTz hW)
   rw [← eR,← eE,← eN]
   unfold lsR lsE lsN
   simp only [if_neg h0]
   exact this
  clear eR eE eN hT h1 h2 hRk rD rX hr
  go_enter Tryz.func46,Tryz.ntmps46
  go_wp2_with fail
  generalize hW0:World.alloc _ _=W0
  have HB0:Hid (Below w.heap.size w W0):=by rw [← hW0];exact up_alloc w _
  clear hW0
  refine (cd.out W0 HB0.out).mono ?_
  rintro e w1 ⟨rfl,hT1,hB1,hO1,hS1⟩
  have HF:Hid (TapC w1 B tb NS∧Below B w w1∧Only SC w w1∧Spar2 tb w w1):=⟨hT1,(HB0.out.mono HZ.out).trans hB1,(Only.of HB0.out).trans hO1,Spar2.trans (Spar2.of HB0.out) hS1 HB0.out.size⟩
  clear hT1 hB1 hO1 hS1 cd
  go_wp2
  go_ret2
  exact ⟨rfl,HF.out⟩
/-- How a step lies in a literal's cells. -/
def StL (B:Nat) (w:World) (cs:List Value) (i:Nat) (s:Nd):Prop:=∃ p n c p2 n2 c2,cs[i*6]?=some (.int .i64 s.op)∧cs[i*6+1]?=some (.int .i64 s.a)∧cs[i*6+2]?=some (.int .i64 s.b)∧cs[i*6+3]?=some (.int .i64 s.k)∧cs[i*6+4]?=some (.slice p n c)∧cs[i*6+5]?=some (.slice p2 n2 c2)∧KeptL B w (.slice p n c) s.D∧KeptL B w (.slice p2 n2 c2) s.X
theorem lit_cell {W:World} {g:Nat} {cs:List Value} {e:TypeId} (h:W.heap[g]?=some (.cells cs.toArray e (0,0))) {j:Nat} {v:Value} (hj:cs[j]?=some v):W.cell? ⟨g,j,none⟩=some v:=by
 unfold World.cell?
 simp [h,hj]
theorem clay_any (B tb:Nat) (ns:List Nd) (hG:NodesG ns) (sts:List Nd) (hok:∀ i,i < sts.length→StpOk (stA sts i)) (hns:ns.length≤512) (g m:Nat) (cs:List Value) (hm:sts.length=m) (hm2:m≤20) (w:World) (hT:TapC w B tb ns) (hTz:Hid (∀ W,Below B w W→Tz W)) (hc:w.heap[g]?=some (.cells cs.toArray 71 (0,0))) (hst:∀ i,i < m→StL B w cs i (stA sts i)):
  Calls Tryz.prog 29 #[.pointer (some ⟨tb,0,none⟩),.slice (some ⟨g,0,none⟩) m m] w fun e w'=>e = .returned (.tuple #[.int .i64 (lyR ns sts),.int .i64 (lyE ns sts)])∧TapC w' B tb (lyM ns sts)∧Below B w w'∧Only SC w w'∧Spar2 tb w w':=by
 haveI:Nonempty World:=⟨w⟩
 have cln:=clen_any B tb ns w hT
 have hBz:B≤w.heap.size:=by
  obtain ⟨hb,_,_,hv,_⟩:=hT
  exact Nat.le_trans hb (Nat.le_of_lt (heap_lt hv))
 by_cases hP:lyP ns sts
 case neg=>
  have e1:lyR ns sts=0:=if_neg fun h=>hP h.1
  have e2:lyE ns sts=2:=if_neg hP
  have e3:lyM ns sts=ns:=if_neg hP
  rw [e1,e2,e3]
  have HT:Hid (TapC w B tb ns):=hT
  obtain ⟨N,eN⟩:∃ N:Nat,ns.length=N:=⟨_,rfl⟩
  rw [eN] at cln hns
  have hN:(512:Int) < (N:Int)+(m:Int):=by
   have:¬ ns.length+sts.length≤512:=hP
   omega
  have hN1:(N:Int)≤512:=by omega
  have hN2:(m:Int)≤20:=by omega
  clear e1 e2 e3 hP hst hc hok hT hG hTz eN hm
  go_enter Tryz.func29,Tryz.ntmps29
  go_wp2_with fail
  refine cln.mono ?_
  rintro e w1 ⟨rfl,rfl⟩
  clear cln
  go_wp2
  go_ret2
  exact ⟨rfl,HT.out,Below.refl _ _,Only.refl _ _,Spar2.of (Below.refl _ _)⟩
 have hstop:=lyF_stop sts ns
 have e1:lyR ns sts=if (lyF sts ns m).1=0 then (lyF sts ns m).2.2 else 0:=by
  subst hm
  by_cases h:(lyF sts ns sts.length).1=0
  ·rw [if_pos h]
   exact if_pos ⟨hP,h⟩
  ·rw [if_neg h]
   exact if_neg fun h'=>h h'.2
 have e2:lyE ns sts=(lyF sts ns m).1:=(if_pos hP).trans (by rw [hm])
 have e3:lyM ns sts=(lyF sts ns m).2.1:=(if_pos hP).trans (by rw [hm])
 rw [e1,e2,e3]
 obtain ⟨F,eF⟩:∃ F,lyF sts ns=F:=⟨_,rfl⟩
 have h0:F 0=(0,ns,0):=by rw [← eF];rfl
 have hs:∀ i,(F i).1=0→F (i+1)=(lsE (F i).2.1 (stA sts i),lsN (F i).2.1 (stA sts i),lsR (F i).2.1 (stA sts i)):=fun i h=>by
  rw [← eF] at h ⊢
  conv=>lhs;unfold lyF
  rw [if_pos h]
 rw [eF] at hstop ⊢
 obtain ⟨N,eN⟩:∃ N:Nat,ns.length=N:=⟨_,rfl⟩
 have hN:(N:Int)+(m:Int)≤512:=by
  have:ns.length+sts.length≤512:=hP
  omega
 rw [eN] at cln
 have HF:Hid (F 0=(0,ns,0)∧(∀ i,(F i).1=0→F (i+1)=(lsE (F i).2.1 (stA sts i),lsN (F i).2.1 (stA sts i),lsR (F i).2.1 (stA sts i)))∧(∀ i,(F i).1≠0→∀ k,F (i+k)=F i)):=⟨h0,hs,hstop⟩
 have HK:Hid (B≤w.heap.size∧w.heap[g]?=some (.cells cs.toArray 71 (0,0))∧(∀ i,i < m→StL B w cs i (stA sts i))∧(∀ i,i < m→StpOk (stA sts i))):=⟨hBz,hc,hst,by rw [← hm];exact hok⟩
 have HT:Hid (TapC w B tb ns∧NodesG ns):=⟨hT,hG⟩
 obtain ⟨LR,eLR⟩:∃ z,(if (F m).1=0 then (F m).2.2 else 0)=z:=⟨_,rfl⟩
 rw [eLR]
 have HRR:Hid ((if (F m).1=0 then (F m).2.2 else 0)=LR):=eLR
 have hN0:(m:Int)≤20:=by omega
 clear eLR h0 hs hstop eF hc hm hok hT hG hns hBz hst e1 e2 e3 hP eN
 go_enter Tryz.func29,Tryz.ntmps29
 go_wp2_with fail
 refine cln.mono ?_
 rintro e w1 ⟨rfl,rfl⟩
 clear cln
 go_wp2_with fail
 go_loopg [6,19] m (fun gg u i wr=>∃ (k:Nat),k≤m∧gg=m - k∧u = .int .i64 (F k).2.2∧i = .int .i64 (k:Int)∧Hid ((F k).1=0∧TapC wr B tb (F k).2.1∧NodesG (F k).2.1∧Below B w1 wr∧Only SC w1 wr∧Spar2 tb w1 wr))
 case atStart=>
  refine ⟨0,by omega,by omega,by rw [HF.out.1],rfl,?_⟩
  show _∧_
  rw [HF.out.1]
  exact ⟨rfl,HT.out.1,HT.out.2,Below.refl _ _,Only.refl _ _,Spar2.of (Below.refl _ _)⟩
 case round=>
  obtain ⟨k,hk,hg,rfl,rfl,HI⟩:=hrel
  by_cases hkm:k < m
  ·have hk':(k:Int) < (m:Int):=by omega
   have hok:=HK.out.2.2.2 k hkm
   have hstep:=HF.out.2.1 k HI.out.1
   have hlit:=HI.out.2.2.2.2.1.keep HK.out.2.1 (by decide)
   obtain ⟨s1,n1,c1,s2,n2,c2,z0,z1,z2,z3,z4,z5,k1,k2⟩:=HK.out.2.2.1 k hkm
   obtain ⟨st,est⟩:∃ st,stA sts k=st:=⟨_,rfl⟩
   rw [est] at z0 z1 z2 z3 k1 k2 hstep hok
   have y0:=lit_cell hlit z0
   have y1:=lit_cell hlit z1
   have y2:=lit_cell hlit z2
   have y3:=lit_cell hlit z3
   have y4:=lit_cell hlit z4
   have y5:=lit_cell hlit z5
   have hsz:B≤wr.heap.size:=Nat.le_trans HK.out.1 HI.out.2.2.2.2.1.1
   have cL:Hid (∀ W,Below wr.heap.size wr W→Calls Tryz.prog 46 #[.pointer (some ⟨tb,0,none⟩),.agg #[.int .i64 st.op,.int .i64 st.a,.int .i64 st.b,.int .i64 st.k,.slice s1 n1 c1,.slice s2 n2 c2]] W fun e w'=>e = .returned (.tuple #[.int .i64 (lsR (F k).2.1 st),.int .i64 (lsE (F k).2.1 st)])∧TapC w' B tb (lsN (F k).2.1 st)∧Below B W w'∧Only SC W w'∧Spar2 tb W w'):=fun W hW=>by
    have hb:Below B w1 W:=HI.out.2.2.2.1.trans (hW.mono hsz)
    have ho:Only SC w1 W:=HI.out.2.2.2.2.1.trans (Only.of hW)
    exact clayone_any B tb (F k).2.1 HI.out.2.2.1 st hok s1 n1 c1 s2 n2 c2 W (HI.out.2.1.up hW) (hTz.out W hb) (k1 W hb ho) (k2 W hb ho)
   have HG2:Hid (NodesG (lsN (F k).2.1 st)):=HI.out.2.2.1.ls hok.X
   have HZ:Hid (B≤wr.heap.size):=hsz
   obtain ⟨E,eE⟩:∃ E,lsE (F k).2.1 st=E:=⟨_,rfl⟩
   obtain ⟨R,eR⟩:∃ E,lsR (F k).2.1 st=E:=⟨_,rfl⟩
   obtain ⟨NS,eN⟩:∃ E,lsN (F k).2.1 st=E:=⟨_,rfl⟩
   rw [eE,eR,eN] at cL hstep
   rw [eN] at HG2
   have HST:Hid (F (k+1)=(E,NS,R)):=hstep
   obtain ⟨op,a,b,kk,D,X⟩:=st
   simp only [] at y0 y1 y2 y3 cL
   have hlt:=cell_size y0
   clear hok hstep k1 k2 est eE eR eN z0 z1 z2 z3 z4 z5 hlit hsz
   go_wp2_with fail
   generalize hW2:World.alloc _ _=W2
   have HB2:Hid (Below wr.heap.size wr W2):=by rw [← hW2];exact up_alloc wr _
   clear hW2 y0 y1 y2 y3 y4 y5 hlt
   refine (cL.out W2 HB2.out).mono ?_
   rintro e w3 ⟨rfl,hT3,hB3,hO3,hS3⟩
   have HI3:Hid (TapC w3 B tb NS∧Below B w1 w3∧Only SC w1 w3∧Spar2 tb w1 w3):=⟨hT3,HI.out.2.2.2.1.trans ((HB2.out.mono HZ.out).trans hB3),HI.out.2.2.2.2.1.trans ((Only.of HB2.out).trans hO3),Spar2.trans HI.out.2.2.2.2.2 (Spar2.trans (Spar2.of HB2.out) hS3 HB2.out.size) HI.out.2.2.2.2.1.1⟩
   clear hT3 hB3 hO3 hS3 cL
   by_cases hE:E=0
   case neg=>
    have hE':(E != 0)=true:=by simpa using hE
    have HE:Hid (F m=(E,NS,R)):=by
     have h4:=HF.out.2.2 (k+1) (by rw [HST.out];exact hE) (m - (k+1))
     rw [show k+1+(m - (k+1))=m by omega] at h4
     show _=_
     rw [h4,HST.out]
    have HRS:Hid (Ending.returned (.tuple #[.int .i64 0,.int .i64 E]) = .returned (.tuple #[.int .i64 LR,.int .i64 (F m).1])∧TapC w3 B tb (F m).2.1∧Below B w1 w3∧Only SC w1 w3∧Spar2 tb w1 w3):=by
     show _∧_
     have e1:(F m).1=E:=by rw [HE.out]
     have e2:=HRR.out
     rw [if_neg (by rw [e1];exact hE)] at e2
     rw [← e2,e1]
     refine ⟨rfl,?_,HI3.out.2⟩
     rw [HE.out]
     exact HI3.out.1
    clear HE HI3 HST HI
    go_wp2
    exact bodyPost_ret (v:=.tuple #[.int .i64 0,.int .i64 E]) (by simp [results,Tryz.results29,go_sem]) rfl HRS.out
   subst hE
   have HN:Hid ((F (k+1)).1=0∧TapC w3 B tb (F (k+1)).2.1∧NodesG (F (k+1)).2.1∧Below B w1 w3∧Only SC w1 w3∧Spar2 tb w1 w3):=by
    show _∧_
    rw [HST.out]
    exact ⟨rfl,HI3.out.1,HG2.out,HI3.out.2⟩
   have HL:Hid ((F (k+1)).2.2=R):=by show _=_;rw [HST.out]
   clear HI3 HI HST
   go_wp2
   go_roundg (m - (k+1))
   case measure=>omega
   case rel=>exact ⟨k+1,by omega,rfl,by rw [HL.out],by first|rfl|simp,HN⟩
  ·obtain rfl:k=m:=by omega
   have HRS:Hid (Ending.returned (.tuple #[.int .i64 (F k).2.2,.int .i64 0]) = .returned (.tuple #[.int .i64 LR,.int .i64 (F k).1])∧TapC wr B tb (F k).2.1∧Below B w1 wr∧Only SC w1 wr∧Spar2 tb w1 wr):=by
    show _∧_
    have e2:=HRR.out
    rw [if_pos HI.out.1] at e2
    rw [← e2,HI.out.1]
    exact ⟨rfl,HI.out.2.1,HI.out.2.2.2⟩
   go_wp2
   exact bodyPost_ret (v:=.tuple #[.int .i64 (F k).2.2,.int .i64 0]) (by simp [results,Tryz.results29,go_sem]) rfl HRS.out
end Go.Proofs.YtpdkkcnmgiihcaaGreatDoor.Wd
