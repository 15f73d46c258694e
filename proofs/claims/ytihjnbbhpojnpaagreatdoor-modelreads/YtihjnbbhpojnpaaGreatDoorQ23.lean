/- The code's reckon: the document's table. -/
import Derived.Test.YtihjnbbhpojnpaaGreatDoorQ21
import Derived.Test.YtihjnbbhpojnpaaGreatDoorQ22
set_option linter.unusedVariables false
set_option linter.unusedSimpArgs false
set_option maxHeartbeats 16000000
set_option maxRecDepth 16000
namespace Go.Proofs.YtihjnbbhpojnpaaGreatDoor.Wd
open Go.RowKit Fx
/-- What reckon tells at one Op. -/
def CkP (op:Int):Prop:=∀ (p p2 p3 p4:Option Addr) (n c n2 c2 n3 c3 n4 c4:Nat) (dd yy d' y':List Int) (K:Int) (hK:InR K) (hg:TnsG dd yy) (hd':RI d') (hy':RI y') (hc2:n2≤c2) (w:World) (hT:Hid (Tz w)) (h1:Nums .i64 w (.slice p n c) dd) (h2:Nums .i64 w (.slice p2 n2 c2) yy) (h3:Nums .i64 w (.slice p3 n3 c3) d') (h4:Nums .i64 w (.slice p4 n4 c4) y'),
  Calls Tryz.prog 78 #[.int .i64 op,.agg #[.slice p n c,.slice p2 n2 c2],.agg #[.slice p3 n3 c3,.slice p4 n4 c4],.int .i64 K] w fun e w'=>∃ v',e = .returned (.tuple #[v',.int .i64 (rkE op dd yy d' y' K)])∧TRes w' w.heap.size v' (rkD op dd yy d' y' K) (rkV op dd yy d' y' K)∧Below w.heap.size w w'
theorem ck2:CkP 2:=by
 intro p p2 p3 p4 n c n2 c2 n3 c3 n4 c4 dd yy d' y' K hK hg hd' hy' hc2 w hT h1 h2 h3 h4
 have hd:=hg.2.1
 have hx:=hg.2.2
 obtain ⟨E,eE⟩:∃ E,rkE 2 dd yy d' y' K=E:=⟨_,rfl⟩
 obtain ⟨D,eD⟩:∃ D,rkD 2 dd yy d' y' K=D:=⟨_,rfl⟩
 obtain ⟨V,eV⟩:∃ V,rkV 2 dd yy d' y' K=V:=⟨_,rfl⟩
 rw [eE,eD,eV]
 have cc:∀ W,Below w.heap.size w W→Calls Tryz.prog 87 #[.agg #[.slice p n c,.slice p2 n2 c2],.agg #[.slice p3 n3 c3,.slice p4 n4 c4]] W fun e w'=>∃ v',e = .returned (.tuple #[v',.int .i64 E])∧TRes w' W.heap.size v' D V∧Below W.heap.size W w':=fun W hW=>by
  rw [← eE,← eD,← eV]
  exact tadd_any p p2 p3 p4 n c n2 c2 n3 c3 n4 c4 dd yy d' y' hd hx hd' hy' W (h1.up hW) (h2.up hW) (h3.up hW) (h4.up hW)
 clear eE eD eV h1 h2 h3 h4 hd hx hd' hy' hg hK hc2 hT
 go_enter Tryz.func78,Tryz.ntmps78
 go_wp2_with fail
 generalize hW0:World.alloc _ _=W0
 obtain ⟨HB0,XA,XB,XR⟩:=box3 hW0
 clear hW0
 refine (cc W0 HB0.out).mono ?_
 rintro e w1 ⟨v1,rfl,⟨s1,t1,rfl,hs,ht⟩,hB1⟩
 obtain ⟨pa,na,ca,rfl,_⟩:=hs.nums.lst
 obtain ⟨pb,nb,cb,rfl,_⟩:=ht.nums.lst
 clear cc
 obtain ⟨HF,r0,r1,r2,r3,z0,z1⟩:=fin2 XR HB0 hB1 hs ht (by omega)
 clear hs ht
 go_wp2
 exact bodyPost_ret (v:=.tuple #[.agg #[.slice pa na ca,.slice pb nb cb],.int .i64 E]) (by simp [results,Tryz.results78,go_sem,z0,z1]) rfl ⟨_,rfl,HF.out⟩
theorem ck4:CkP 4:=by
 intro p p2 p3 p4 n c n2 c2 n3 c3 n4 c4 dd yy d' y' K hK hg hd' hy' hc2 w hT h1 h2 h3 h4
 have hd:=hg.2.1
 have hx:=hg.2.2
 obtain ⟨E,eE⟩:∃ E,rkE 4 dd yy d' y' K=E:=⟨_,rfl⟩
 obtain ⟨D,eD⟩:∃ D,rkD 4 dd yy d' y' K=D:=⟨_,rfl⟩
 obtain ⟨V,eV⟩:∃ V,rkV 4 dd yy d' y' K=V:=⟨_,rfl⟩
 rw [eE,eD,eV]
 have cc:∀ W,Below w.heap.size w W→Calls Tryz.prog 89 #[.agg #[.slice p n c,.slice p2 n2 c2],.agg #[.slice p3 n3 c3,.slice p4 n4 c4]] W fun e w'=>∃ v',e = .returned (.tuple #[v',.int .i64 E])∧TRes w' W.heap.size v' D V∧Below W.heap.size W w':=fun W hW=>by
  rw [← eE,← eD,← eV]
  exact tmul_any p p2 p3 p4 n c n2 c2 n3 c3 n4 c4 dd yy d' y' hd hx hd' hy' W (h1.up hW) (h2.up hW) (h3.up hW) (h4.up hW)
 clear eE eD eV h1 h2 h3 h4 hd hx hd' hy' hg hK hc2 hT
 go_enter Tryz.func78,Tryz.ntmps78
 go_wp2_with fail
 generalize hW0:World.alloc _ _=W0
 obtain ⟨HB0,XA,XB,XR⟩:=box3 hW0
 clear hW0
 refine (cc W0 HB0.out).mono ?_
 rintro e w1 ⟨v1,rfl,⟨s1,t1,rfl,hs,ht⟩,hB1⟩
 obtain ⟨pa,na,ca,rfl,_⟩:=hs.nums.lst
 obtain ⟨pb,nb,cb,rfl,_⟩:=ht.nums.lst
 clear cc
 obtain ⟨HF,r0,r1,r2,r3,z0,z1⟩:=fin2 XR HB0 hB1 hs ht (by omega)
 clear hs ht
 go_wp2
 exact bodyPost_ret (v:=.tuple #[.agg #[.slice pa na ca,.slice pb nb cb],.int .i64 E]) (by simp [results,Tryz.results78,go_sem,z0,z1]) rfl ⟨_,rfl,HF.out⟩
theorem ck8:CkP 8:=by
 intro p p2 p3 p4 n c n2 c2 n3 c3 n4 c4 dd yy d' y' K hK hg hd' hy' hc2 w hT h1 h2 h3 h4
 have hd:=hg.2.1
 have hx:=hg.2.2
 obtain ⟨E,eE⟩:∃ E,rkE 8 dd yy d' y' K=E:=⟨_,rfl⟩
 obtain ⟨D,eD⟩:∃ D,rkD 8 dd yy d' y' K=D:=⟨_,rfl⟩
 obtain ⟨V,eV⟩:∃ V,rkV 8 dd yy d' y' K=V:=⟨_,rfl⟩
 rw [eE,eD,eV]
 have cc:∀ W,Below w.heap.size w W→Calls Tryz.prog 93 #[.agg #[.slice p n c,.slice p2 n2 c2],.int .i64 K] W fun e w'=>∃ v',e = .returned (.tuple #[v',.int .i64 E])∧TRes w' W.heap.size v' D V∧Below W.heap.size W w':=fun W hW=>by
  rw [← eE,← eD,← eV]
  exact sum_own p p2 n c n2 c2 dd yy K hK hd hx (by obtain ⟨_,_,_,e4,HD⟩:=h1.lst;cases e4;have h5:=hg.1.1.1;rw [ntl_len,HD.out.1] at h5;omega) W (h1.up hW) (h2.up hW)
 clear eE eD eV h1 h2 h3 h4 hd hx hd' hy' hg hK hc2 hT
 go_enter Tryz.func78,Tryz.ntmps78
 go_wp2_with fail
 generalize hW0:World.alloc _ _=W0
 obtain ⟨HB0,XA,XB,XR⟩:=box3 hW0
 clear hW0
 refine (cc W0 HB0.out).mono ?_
 rintro e w1 ⟨v1,rfl,⟨s1,t1,rfl,hs,ht⟩,hB1⟩
 obtain ⟨pa,na,ca,rfl,_⟩:=hs.nums.lst
 obtain ⟨pb,nb,cb,rfl,_⟩:=ht.nums.lst
 clear cc
 obtain ⟨HF,r0,r1,r2,r3,z0,z1⟩:=fin2 XR HB0 hB1 hs ht (by omega)
 clear hs ht
 go_wp2
 exact bodyPost_ret (v:=.tuple #[.agg #[.slice pa na ca,.slice pb nb cb],.int .i64 E]) (by simp [results,Tryz.results78,go_sem,z0,z1]) rfl ⟨_,rfl,HF.out⟩
def rqE (op:Int) (D X D' X':List Int) (k:Int):Int:=if 2≤op∧op≤14 then rkE op D X D' X' k else 1
def rqD (op:Int) (D X D' X':List Int) (k:Int):List Int:=if 2≤op∧op≤14 then rkD op D X D' X' k else []
def rqV (op:Int) (D X D' X':List Int) (k:Int):List Int:=if 2≤op∧op≤14 then rkV op D X D' X' k else []
/-- What reckon does at an Op, the table's, and any. -/
def RkC (op:Int):Prop:=∀ (p p2 p3 p4:Option Addr) (n c n2 c2 n3 c3 n4 c4:Nat) (dd yy d' y':List Int) (K:Int) (hK:InR K) (hg:TnsG dd yy) (hd':RI d') (hy':RI y') (hc2:n2≤c2) (w:World) (hT:Hid (Tz w)) (h1:Nums .i64 w (.slice p n c) dd) (h2:Nums .i64 w (.slice p2 n2 c2) yy) (h3:Nums .i64 w (.slice p3 n3 c3) d') (h4:Nums .i64 w (.slice p4 n4 c4) y'),
  Calls Tryz.prog 78 #[.int .i64 op,.agg #[.slice p n c,.slice p2 n2 c2],.agg #[.slice p3 n3 c3,.slice p4 n4 c4],.int .i64 K] w fun e w'=>∃ v',e = .returned (.tuple #[v',.int .i64 (rqE op dd yy d' y' K)])∧TRes w' w.heap.size v' (rqD op dd yy d' y' K) (rqV op dd yy d' y' K)∧Below w.heap.size w w'
theorem RkC.of {op:Int} (h:2≤op∧op≤14) (hc:CkP op):RkC op:=by
 intro p p2 p3 p4 n c n2 c2 n3 c3 n4 c4 dd yy d' y' K hK hg hd' hy' hc2 w hT h1 h2 h3 h4
 have:=hc p p2 p3 p4 n c n2 c2 n3 c3 n4 c4 dd yy d' y' K hK hg hd' hy' hc2 w hT h1 h2 h3 h4
 unfold rqE rqD rqV
 rw [if_pos h,if_pos h,if_pos h]
 exact this
theorem cdo_ok (B tb:Nat) (ns:List Nd) (op:Int) (ai:Nat) (b k:Int) (nda:Nd) (hnda:ns[ai]?=some nda) (dB_ xB_:List Int) (BV KV:Int) (h2:(twoP op∧BV=b∧∃ (bi:Nat) (ndb:Nd),b=(bi:Int)∧ns[bi]?=some ndb∧dB_=ndb.D∧xB_=ndb.X)∨(¬ twoP op∧BV = -1∧dB_ = []∧xB_ = [])) (h3:(byP op∧KV=k)∨(¬ byP op∧KV=0)) (hroom:ns.length < 512) (E:Int) (D V:List Int) (RR:Int) (NS:List Nd) (HG:Hid ((E=0→RR=(ns.length:Int)∧NS=ns++[⟨op,(ai:Int),BV,KV,D,V⟩])∧(E≠0→RR=0∧NS=ns))) (w:World) (hT:TapC w B tb ns)
  (HR:Hid (∀ (W:World) (pA qA pB qB:Option Addr) (nA cA mA eA nB cB mB eB:Nat),Below w.heap.size w W→Nums .i64 W (.slice pA nA cA) nda.D→Nums .i64 W (.slice qA mA eA) nda.X→mA≤eA→Nums .i64 W (.slice pB nB cB) dB_→Nums .i64 W (.slice qB mB eB) xB_→Calls Tryz.prog 78 #[.int .i64 op,.agg #[.slice pA nA cA,.slice qA mA eA],.agg #[.slice pB nB cB,.slice qB mB eB],.int .i64 k] W fun e w'=>∃ v',e = .returned (.tuple #[v',.int .i64 E])∧TRes w' W.heap.size v' D V∧Below W.heap.size W w')):
  Calls Tryz.prog 65 #[.pointer (some ⟨tb,0,none⟩),.int .i64 op,.int .i64 (ai:Int),.int .i64 b,.int .i64 k] w fun e w'=>e = .returned (.tuple #[.int .i64 RR,.int .i64 E])∧TapC w' B tb NS∧Below B w w'∧Only SC w w'∧Spar2 tb w w':=by
 have hTT:Hid (TapC w B tb ns):=hT
 obtain ⟨pL,cL,xs0,hv,ho,hn0,hnc⟩:=Tap.head hT
 obtain ⟨N,eN⟩:∃ N,ns.length=N:=⟨_,rfl⟩
 rw [eN] at hv ho hnc
 have hcell:=(head_cell hv).1
 have hz:=heap_lt hv
 have HBB:Hid (B≤w.heap.size):=Nat.le_trans hTT.out.1 (Nat.le_of_lt hz)
 have hai:ai < N:=by rw [← eN];exact (List.getElem?_eq_some_iff.1 hnda).1
 obtain ⟨q,nda',sA_,tA_,eq,hx,_,_,_,_,ca4,ca5,hsA,htA⟩:=node_cells ho hn0 eN ai hai
 rw [hnda] at hx
 cases hx
 obtain ⟨pA,nA,cA,rfl⟩:=hsA.form_
 obtain ⟨qA,mA,eA,rfl⟩:=htA.form_
 have hf:decide (512≤ns.length)=false:=decide_eq_false (by omega)
 have ha:decide (0≤(ai:Int)∧(ai:Int) < (ns.length:Int))=true:=decide_eq_true (by omega)
 have a4:(ai:Int) < (N:Int):=by omega
 have HL:Hid (ns.length < 512):=hroom
 haveI:Nonempty World:=⟨w⟩
 have HCg:Hid (∀ (W:World) (pB qB:Option Addr) (nB cB mB eB:Nat),Below w.heap.size w W→Nums .i64 W (.slice pB nB cB) dB_→Nums .i64 W (.slice qB mB eB) xB_→Calls Tryz.prog 78 #[.int .i64 op,.agg #[.slice pA nA cA,.slice qA mA eA],.agg #[.slice pB nB cB,.slice qB mB eB],.int .i64 k] W fun e w'=>∃ v',e = .returned (.tuple #[v',.int .i64 E])∧TRes w' W.heap.size v' D V∧Below W.heap.size W w'):=fun W pB qB nB cB mB eB hW g1 g2=>HR.out W _ _ _ _ _ _ _ _ _ _ _ _ hW (hsA.nums.up hW) (htA.nums.up hW) htA.cap g1 g2
 clear hsA htA hnda HR hroom
 have HK3:Hid ((byP op∧KV=k)∨(¬ byP op∧KV=0)):=h3
 clear h3
 rcases h2 with ⟨h2,eV,bi,ndb,eb,hndb,ed,ex⟩|⟨h2,eV,ed,ex⟩
 case' inl=>
  subst eV
  have hbi:bi < N:=by rw [← eN];exact (List.getElem?_eq_some_iff.1 hndb).1
  obtain ⟨q',ndb',sB_,tB_,eq',hx,_,_,_,_,cb4,cb5,hsB,htB⟩:=node_cells ho hn0 eN bi hbi
  rw [hndb] at hx
  cases hx
  obtain ⟨pB,nB,cB,rfl⟩:=hsB.form_
  obtain ⟨qB,mB,eB,rfl⟩:=htB.form_
  rw [eq] at eq'
  cases eq'
  subst eq
  have HC:Hid (∀ W,Below w.heap.size w W→Calls Tryz.prog 78 #[.int .i64 op,.agg #[.slice pA nA cA,.slice qA mA eA],.agg #[.slice pB nB cB,.slice qB mB eB],.int .i64 k] W fun e w'=>∃ v',e = .returned (.tuple #[v',.int .i64 E])∧TRes w' W.heap.size v' D V∧Below W.heap.size W w'):=fun W hW=>HCg.out W _ _ _ _ _ _ hW (by rw [ed];exact hsB.nums.up hW) (by rw [ex];exact htB.nums.up hW)
  have hq:decide (twoP op)=true:=decide_eq_true h2
  have hb:decide (0≤BV∧BV < (ns.length:Int))=true:=decide_eq_true (by omega)
  have HWb:Hid (BV=(bi:Int)∧bi < N∧w.cell? ⟨q,bi*6+4,none⟩=some (.slice pB nB cB)∧w.cell? ⟨q,bi*6+5,none⟩=some (.slice qB mB eB)):=⟨eb,hbi,cb4,cb5⟩
  clear hsB htB hndb cb4 cb5 eb hbi ed ex
 case' inr=>
  subst eq
  obtain ⟨pB,nB,cB,qB,mB,eB,eY⟩:∃ (pB:Option Addr) (nB cB:Nat) (qB:Option Addr) (mB eB:Nat),(Value.slice none 0 0 = .slice pB nB cB∧Value.slice none 0 0 = .slice qB mB eB):=⟨_,_,_,_,_,_,rfl,rfl⟩
  have HC:Hid (∀ W,Below w.heap.size w W→Calls Tryz.prog 78 #[.int .i64 op,.agg #[.slice pA nA cA,.slice qA mA eA],.agg #[.slice pB nB cB,.slice qB mB eB],.int .i64 k] W fun e w'=>∃ v',e = .returned (.tuple #[v',.int .i64 E])∧TRes w' W.heap.size v' D V∧Below W.heap.size W w'):=fun W hW=>HCg.out W _ _ _ _ _ _ hW (by rw [ed,← eY.1];exact .inl ⟨rfl,rfl⟩) (by rw [ex,← eY.2];exact .inl ⟨rfl,rfl⟩)
  have hq:decide (twoP op)=false:=decide_eq_false h2
  have HY_:Hid (BV = -1∧(Value.slice none 0 0 = .slice pB nB cB∧Value.slice none 0 0 = .slice qB mB eB)):=⟨eV,eY⟩
  clear eY ed ex eV
 all_goals
  have hzq:=cell_lt ca4
  have HW:Hid (w.cell? ⟨tb,0,none⟩=some (.slice (some ⟨q,0,none⟩) N cL)∧w.cell? ⟨q,ai*6+4,none⟩=some (.slice pA nA cA)∧w.cell? ⟨q,ai*6+5,none⟩=some (.slice qA mA eA)):=⟨hcell,ca4,ca5⟩
  clear hT hv ho hn0 hnc ca4 ca5 hcell eN h2 HCg
  go_enter Tryz.func65,Tryz.ntmps65
  go_wp2_with fail
  refine (cfull_any B tb ns false hf w hTT.out).mono ?_
  rintro e w9 ⟨rfl,ew9⟩
  have ew:=ew9.symm
  subst ew
  clear ew9
  go_wp2_with fail
  refine (chas_any B tb ns (ai:Int) true ha w hTT.out).mono ?_
  rintro e w9 ⟨rfl,ew9⟩
  have ew:=ew9.symm
  subst ew
  clear ew9
  go_wp2_with fail
  refine (chasb_any op _ hq w).mono ?_
  rintro e w9 ⟨rfl,ew9⟩
  have ew:=ew9.symm
  subst ew
  clear ew9
  clear hf ha
 all_goals try
  have hb_:=hb
  clear hb_
  go_wp2_with fail
  refine (chas_any B tb ns BV true hb w hTT.out).mono ?_
  rintro e w9 ⟨rfl,ew9⟩
  have ew:=ew9.symm
  subst ew
  clear ew9
  clear hb
 all_goals
  go_wp2_with fail
  generalize hW0:World.alloc _ _=W0
  have HB0:Hid (Below w.heap.size w W0):=by show Below _ _ _;rw [← hW0];go_grown
  have HN0:W0.heap[w.heap.size]?=some (.cells #[.int .i64 op,.int .i64 (ai:Int),.int .i64 (-1),.int .i64 0,.slice none 0 0,.slice none 0 0] 77 (0,0)):=by
   rw [← hW0,heap_alloc_old _ _ (by rw [size_alloc];omega)]
   exact heap_alloc_new _ _
  have HY0:W0.heap[w.heap.size+1]?=some (.cells #[.slice none 0 0,.slice none 0 0] 49 (0,0)):=by
   rw [← hW0,← size_alloc w (.cells #[.int .i64 op,.int .i64 (ai:Int),.int .i64 (-1),.int .i64 0,.slice none 0 0,.slice none 0 0] 77)]
   exact heap_alloc_new _ _
  clear hW0
  refine (chasb_any op _ hq W0).mono ?_
  rintro e w9 ⟨rfl,ew9⟩
  have ew:=ew9.symm
  subst ew
  clear ew9 hq
  have n1:tb≠w.heap.size:=by omega
  have n2:tb≠w.heap.size+1:=by omega
  have n3:q≠w.heap.size:=by omega
  have n4:q≠w.heap.size+1:=by omega
 all_goals first
  |obtain ⟨eb,hbi,cb4,cb5⟩:=HWb.out
   subst eb
   have b4:(bi:Int) < (N:Int):=by omega
   have hc0:=cell_low HW.out.1 HB0.out
   replace cb4:=cell_low cb4 HB0.out
   replace cb5:=cell_low cb5 HB0.out
   have s0:=cell_lt hc0
   have s3:=cell_lt cb4
   obtain ⟨⟨_,_,k2,_,_,_⟩,kf⟩:=box6 HN0
   obtain ⟨l0,l1,l2,l3⟩:=new_cel HY0
   have s1:=heap_lt HN0
   have s2:=heap_lt HY0
   have kf2:=kf 2
   clear HWb hbi
   go_wp2_with fail
   go_region
   go_wp2_with fail
   generalize hW1:World.drew _=W1
   have HN1:W1.heap[w.heap.size]?=some (.cells #[.int .i64 op,.int .i64 (ai:Int),.int .i64 (bi:Int),.int .i64 0,.slice none 0 0,.slice none 0 0] 77 (0,0)):=by
    rw [← hW1]
    show (World.setCell _ _ _).heap[w.heap.size]?=_
    rw [heap_set _ _ _ _ _ (by omega),heap_set _ _ _ _ _ (by omega),heap_setat HN0]
    rfl
   have HY1:W1.heap[w.heap.size+1]?=some (.cells #[.slice pB nB cB,.slice qB mB eB] 49 (0,0)):=by
    have h0:(W0.setCell ⟨w.heap.size,2,none⟩ (.int .i64 (bi:Int))).heap[w.heap.size+1]?=some (.cells #[.slice none 0 0,.slice none 0 0] 49 (0,0)):=by
     rw [heap_set _ _ _ _ _ (by omega)]
     exact HY0
    rw [← hW1]
    show (World.setCell _ _ _).heap[w.heap.size+1]?=_
    rw [heap_setat (heap_setat h0)]
    rfl
   have HB1:Hid (Below w.heap.size w W1):=by
    show Below _ _ _
    rw [← hW1]
    exact (((HB0.out.setCell (p:=⟨w.heap.size,2,none⟩) (Nat.le_refl _) _).setCell (p:=⟨w.heap.size+1,0,none⟩) (Nat.le_succ _) _).setCell (p:=⟨w.heap.size+1,1,none⟩) (Nat.le_succ _) _).trans ⟨rfl,rfl,rfl,Nat.le_refl _,fun _ _=>rfl⟩
   obtain ⟨BV,eBV⟩:∃ z,(bi:Int)=z:=⟨_,rfl⟩
   rw [eBV] at HN1 HG
   clear hW1 k2 kf kf2 l0 l1 l2 l3 s0 s1 s2 s3 hc0 cb4 cb5 HN0 HY0 HB0
  |go_wp2_with fail
   obtain ⟨W1,eW1⟩:∃ W1:World,W1=W0:=⟨_,rfl⟩
   rw [← eW1]
   rw [← eW1] at HN0 HY0 HB0
   have HN1:W1.heap[w.heap.size]?=some (.cells #[.int .i64 op,.int .i64 (ai:Int),.int .i64 BV,.int .i64 0,.slice none 0 0,.slice none 0 0] 77 (0,0)):=by rw [HY_.out.1];exact HN0
   have HY1:W1.heap[w.heap.size+1]?=some (.cells #[.slice pB nB cB,.slice qB mB eB] 49 (0,0)):=by
    rw [← HY_.out.2.1,← HY_.out.2.2]
    exact HY0
   have HB1:=HB0
   clear HN0 HY0 HB0 eW1 HY_
 all_goals
  rcases HK3.out with ⟨h3,eK⟩|⟨h3,eK⟩
  case' inl=>
   subst eK
   refine (chask_any op true (decide_eq_true h3) W1).mono ?_
   rintro e w9 ⟨rfl,ew9⟩
   have ew:=ew9.symm
   subst ew
   clear ew9 h3
   obtain ⟨⟨_,_,_,k3,_,_⟩,kf⟩:=box6 HN1
   have s1:=heap_lt HN1
   go_wp2_with fail
   refine name_world (fun W2 hW2=>?_)
   have HN2:W2.heap[w.heap.size]?=some (.cells #[.int .i64 op,.int .i64 (ai:Int),.int .i64 BV,.int .i64 KV,.slice none 0 0,.slice none 0 0] 77 (0,0)):=by
    rw [hW2,heap_setat HN1]
    rfl
   have HY2:W2.heap[w.heap.size+1]?=some (.cells #[.slice pB nB cB,.slice qB mB eB] 49 (0,0)):=by
    rw [hW2,heap_set _ _ _ _ _ (by omega)]
    exact HY1
   have HB2:Hid (Below w.heap.size w W2):=by
    show Below _ _ _
    rw [hW2]
    exact HB1.out.setCell (p:=⟨w.heap.size,3,none⟩) (Nat.le_refl _) _
   clear k3 kf s1
  case' inr=>
   refine (chask_any op false (decide_eq_false h3) W1).mono ?_
   rintro e w9 ⟨rfl,ew9⟩
   have ew:=ew9.symm
   subst ew
   clear ew9 h3
   go_wp2_with fail
   refine name_world (fun W2 hW2=>?_)
   have HN2:W2.heap[w.heap.size]?=some (.cells #[.int .i64 op,.int .i64 (ai:Int),.int .i64 BV,.int .i64 KV,.slice none 0 0,.slice none 0 0] 77 (0,0)):=by rw [hW2,eK];exact HN1
   have HY2:W2.heap[w.heap.size+1]?=some (.cells #[.slice pB nB cB,.slice qB mB eB] 49 (0,0)):=by rw [hW2];exact HY1
   have HB2:Hid (Below w.heap.size w W2):=by show Below _ _ _;rw [hW2];exact HB1.out
   clear eK
  all_goals
   clear hW2 HN1 HY1 HB1 HK3
   have hc0:=cell_low HW.out.1 HB2.out
   have ca4:=cell_low HW.out.2.1 HB2.out
   have ca5:=cell_low HW.out.2.2 HB2.out
   obtain ⟨y0,y1,_,_⟩:=new_cel HY2
   have s0:=cell_lt hc0
   have s1:=heap_lt HN2
   have s2:=heap_lt HY2
   have s3:=cell_lt ca4
   refine relE [⟨11,62,TupP W2.heap.size D V E⟩,⟨12,50,TupP W2.heap.size D V E⟩,⟨13,63,OwnT W2.heap.size D V⟩] 16 72 (by kernel_rfl) rfl rfl 14 _ rfl (by decide) rfl (by kernel_rfl) (by kernel_rfl) (fun _ _ _ _ h=>h) (by rfl) ?_ ?_
   ·intro e he v W W' h hb
    simp only [List.mem_cons,List.not_mem_nil,or_false] at he
    rcases he with rfl|rfl|rfl
    ·exact TupP.up h hb
    ·exact TupP.up h hb
    ·exact OwnT.up h hb
   apply Exists.intro
   refine ⟨?_,?_,?_,?_⟩
   rotate_left
   ·intro x
    simp only [List.take_succ_cons,List.take_zero]
    iterate 11
     refine relQuiet rfl rfl ?_
     apply Exists.intro
     refine ⟨fun F hF hf K hK=>?_,?_⟩
     ·have hFc:=hF.cell
      have hFf:=hF.frozen
      go_big_quiet_op
      exact hK
     (try simp only [putL])
    refine relTold rfl rfl ?_ ?_
    ·intro F hF hf d
     have hFc:=hF.cell
     have hFf:=hF.frozen
     simp [yieldsR,yieldsUpon,go_sem]
     refine (HC.out (F d) (bstep HB2.out (hF.below d))).mono ?_
     rintro e' w8 ⟨v8,rfl,h8,hb8⟩
     exact ⟨_,rfl,⟨v8,rfl,(h8.low (hF.below d).size).own⟩,hb8⟩
    (try simp only [putL])
    refine relTold rfl rfl ?_ ?_
    ·intro F hF hf d
     have hFc:=hF.cell
     have hFf:=hF.frozen
     have h9:=hf _ List.mem_cons_self (by rfl) d
     simp [yieldsR,yieldsUpon,go_sem]
     exact ⟨h9,Below.refl _ _⟩
    (try simp only [putL])
    refine relTold rfl rfl ?_ ?_
    ·intro F hF hf d
     have hFc:=hF.cell
     have hFf:=hF.frozen
     have h9:=hf _ (List.mem_cons_of_mem _ List.mem_cons_self) (by rfl) d
     obtain ⟨u9,e9,n9⟩:=h9
     simp only [] at e9 n9
     simp [yieldsR,yieldsUpon,go_sem,e9]
     exact ⟨n9,Below.refl _ _⟩
    (try simp only [putL])
    refine relQuiet rfl rfl ?_
    apply Exists.intro
    refine ⟨fun F hF hf K hK=>?_,?_⟩
    ·have hFc:=hF.cell
     have hFf:=hF.frozen
     have h9:=hf _ (List.mem_cons_of_mem _ List.mem_cons_self) (by rfl)
     obtain ⟨u9,e9,_⟩:=h9 w
     simp only [] at e9
     go_big_quiet_op
     exact hK
    (try simp only [putL])
    refine relQuiet rfl rfl ?_
    apply Exists.intro
    refine ⟨fun F hF hf K hK=>?_,?_⟩
    ·have hFc:=hF.cell
     have hFf:=hF.frozen
     go_big_quiet_op
     exact hK
    (try simp only [putL])
    refine relEnd ?_
    exact rfl
   ·intro x
    simp only [putsK,List.foldl_cons,List.foldl_nil,Act.put,List.setIfInBounds_toArray,List.set_cons_zero,List.set_cons_succ]
   rotate_left
   ·intro x hx
    obtain ⟨W9,u9,e9,_⟩:=hx _ (List.mem_cons_of_mem _ List.mem_cons_self) (by rfl)
    simp only [] at e9
    refine ⟨.int .i64 E,fun t ht=>?_,.inl ⟨by rfl,fun w=>?_⟩⟩
    ·cases ht
     rfl
    ·simp [execOp,Act.eval,e9,go_sem]
   intro w3 xs3 hB3 hf
   simp only [List.drop_succ_cons,List.drop_zero]
   have hT1:=hf _ (List.mem_cons_of_mem _ (List.mem_cons_of_mem _ List.mem_cons_self))
   obtain ⟨x11,e11⟩:∃ z,xs3 11=z:=⟨_,rfl⟩
   obtain ⟨x12,e12⟩:∃ z,xs3 12=z:=⟨_,rfl⟩
   obtain ⟨x13,e13⟩:∃ z,xs3 13=z:=⟨_,rfl⟩
   simp only [e13] at hT1
   simp only [e11,e12,e13]
   clear e11 e12 e13 hf hc0 ca4 ca5 y0 y1 s0 s1 s2 s3
   obtain ⟨pa,na,ca,pb,nb,cb,rfl,hs0,ht0⟩:=hT1
   have HB3:Hid (Below w.heap.size w w3):=bstep HB2.out hB3
   have HN3:w3.heap[w.heap.size]?=some (.cells #[.int .i64 op,.int .i64 (ai:Int),.int .i64 BV,.int .i64 KV,.slice none 0 0,.slice none 0 0] 77 (0,0)):=by rw [hB3.block _ (heap_lt HN2)];exact HN2
   obtain ⟨⟨_,_,_,_,k4,k5⟩,kf⟩:=box6 HN3
   have s1:=heap_lt HN3
   have HN6:Hid (((w3.setCell ⟨w.heap.size,4,none⟩ (.slice pa na ca)).setCell ⟨w.heap.size,5,none⟩ (.slice pb nb cb)).heap[w.heap.size]?=some (.cells #[.int .i64 op,.int .i64 (ai:Int),.int .i64 BV,.int .i64 KV,.slice pa na ca,.slice pb nb cb] 77 (0,0))):=by
    show _=_
    rw [heap_setat (heap_setat HN3)]
    rfl
   have HB6:Hid (Below w.heap.size w ((w3.setCell ⟨w.heap.size,4,none⟩ (.slice pa na ca)).setCell ⟨w.heap.size,5,none⟩ (.slice pb nb cb))):=(HB3.out.setCell (p:=⟨w.heap.size,4,none⟩) (Nat.le_refl _) _).setCell (p:=⟨w.heap.size,5,none⟩) (Nat.le_refl _) _
   have o6:Only [77] w3 ((w3.setCell ⟨w.heap.size,4,none⟩ (.slice pa na ca)).setCell ⟨w.heap.size,5,none⟩ (.slice pb nb cb)):=(Only.set HN3 (by simp)).trans (Only.set (heap_setat HN3) (by simp))
   have hlow:B≤W2.heap.size:=Nat.le_trans HBB.out HB2.out.size
   have HO:Hid (OwnK .i64 3 ((w3.setCell ⟨w.heap.size,4,none⟩ (.slice pa na ca)).setCell ⟨w.heap.size,5,none⟩ (.slice pb nb cb)) B (.slice pa na ca) D∧OwnK .i64 46 ((w3.setCell ⟨w.heap.size,4,none⟩ (.slice pa na ca)).setCell ⟨w.heap.size,5,none⟩ (.slice pb nb cb)) B (.slice pb nb cb) V∧OwnK .i64 3 ((w3.setCell ⟨w.heap.size,4,none⟩ (.slice pa na ca)).setCell ⟨w.heap.size,5,none⟩ (.slice pb nb cb)) w.heap.size (.slice pa na ca) D):=⟨(hs0.only o6 (by decide)).low hlow,(ht0.only o6 (by decide)).low hlow,(hs0.only o6 (by decide)).low HB2.out.size⟩
   clear HC HN2 HY2 HB2 hs0 ht0 hB3 HN3 o6 hlow HB3
   by_cases hE:E=0
   case neg=>
    have hE':(E != 0)=true:=by simpa using hE
    obtain ⟨g1,g2⟩:=HG.out.2 hE
    subst g1 g2
    clear HG hE HO HN6
    go_wp2
    exact bodyPost_ret (v:=.tuple #[.int .i64 0,.int .i64 E]) (by simp [results,Tryz.results65,go_sem]) rfl ⟨rfl,hTT.out.up HB6.out,HB6.out.mono HBB.out,Only.of HB6.out,Spar2.of HB6.out⟩
   subst hE
   obtain ⟨g1,g2⟩:=HG.out.1 rfl
   subst g1 g2
   clear HG
   go_wp2_with fail
   refine (ckeep_sp B tb ns ⟨op,(ai:Int),BV,KV,D,V⟩ pa pb na ca nb cb HL.out _ (hTT.out.up HB6.out) HO.out.1 HO.out.2.1).mono ?_
   rintro e w7 ⟨rfl,hT7,hB7,hO7,hS7⟩
   have HF:Hid (TapC w7 B tb (ns++[⟨op,(ai:Int),BV,KV,D,V⟩])∧Below B w w7∧Only SC w w7∧Spar2 tb w w7):=⟨hT7,below_two (HB6.out.mono HBB.out) hB7,(Only.of HB6.out).trans hO7,Spar2.kept HB6.out hS7 HO.out.2.2⟩
   clear hT7 hB7 hO7 hS7 HO k4 k5 kf s1 HN6
   go_wp2
   exact bodyPost_ret (v:=.tuple #[.int .i64 (ns.length:Int),.int .i64 0]) (by simp [results,Tryz.results65,go_sem]) rfl ⟨rfl,HF.out⟩
end Go.Proofs.YtihjnbbhpojnpaaGreatDoor.Wd
