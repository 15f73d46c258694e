/- The reference's Do: a node more. -/
import Derived.Test.YtkfpainpomobfaaGreatDoorR26
set_option linter.unusedVariables false
set_option linter.unusedSimpArgs false
set_option maxHeartbeats 16000000
set_option maxRecDepth 16000
namespace Go.Proofs.YtkfpainpomobfaaGreatDoor.Wd
open Go.RowKit Fx List World Nat
theorem t_d (B O:Nat) (ns:List Nd) (op:Int) (H:Nat) (b k:Int) (aX:Nd) (ar:ns[H]?=some aX) (aS ax:List Int) (R L:Int) (h2:(d_H op/\R=b/\∃ (bi:Nat) (aL:Nd),b=(bi:Int)/\ns[bi]?=some aL/\aS=aL.D/\ax=aL.X)∨(¬ d_H op/\R = -1/\aS = []/\ax = [])) (h3:(byP op/\L=k)∨(¬ byP op/\L=0)) (bz:2<=op) (bQ:op<=14) (an:ns.length < 512) (E:Int) (D V:List Int) (RR:Int) (NS:List Nd) (HG:Hid ((E=0->RR=(ns.length:Int)/\NS=ns++[⟨op,(H:Int),R,L,D,V⟩])/\(E≠0->RR=0/\NS=ns))) (w:World) (hT:Tap 43 55 w B O ns)
  (HR:Hid (∀ (W:World) (pA qA pB qB:Option Addr) (nA cA mA eA nB cB mB eB:Nat),Bw w W->nA<=cA->Nums .i64 W (.slice pA nA cA) aX.D->Nums .i64 W (.slice qA mA eA) aX.X->Nums .i64 W (.slice pB nB cB) aS->Nums .i64 W (.slice qB mB eB) ax->Calls Tryz.prog 45 #[.int .i64 op,.agg #[.slice pA nA cA,.slice qA mA eA],.agg #[.slice pB nB cB,.slice qB mB eB],.int .i64 L] W fun e w'=>∃ v',e = .returned (.tuple #[v',.int .i64 E])/\TRes w' W.heap.size v' D V/\Bw W w')):
  Calls Tryz.prog 28 #[.pointer (some ⟨O,0,none⟩),.int .i64 op,.int .i64 (H:Int),.int .i64 b,.int .i64 k] w fun e w'=>e = .returned (.tuple #[.int .i64 RR,.int .i64 E])/\Tap 43 55 w' B O NS/\Below B w w'/\Only [43,55] w w'/\SpG 43 w.heap.size O w w':=by
 have aw:Hid (Tap 43 55 w B O ns):=hT;obtain ⟨pL,cL,av,hv,ho,aj,aT⟩:=hT.head;obtain ⟨N,eN⟩:∃ N,ns.length=N:=⟨_,rfl⟩
 rw [eN] at hv ho aT HG;have bd:=(a_P hv).1;have hz:=a_k hv;have aP:Hid (B<=w.heap.size):=Nat.le_trans aw.1 (Nat.le_of_lt hz);have hl:Hid (N < 512):=by show _ < _;rw [<- eN];exact an
 have b1:decide ((512:Int)<=(N:Int))=false:=decide_eq_false (by have:=hl.out;omega);have bU:decide (512<=N)=false:=decide_eq_false (by have:=hl.out;omega);have bN:H < N:=by rw [<- eN];exact (List.getElem?_eq_some_iff.1 ar).1
 obtain ⟨q,bR,sA_,b8,eq,hx,_,_,_,_,al,aF,aR,a8⟩:=b_x ho aj eN H bN;rw [ar] at hx;cases hx;obtain ⟨pA,nA,cA,rfl⟩:=aR.form_;obtain ⟨qA,mA,eA,rfl⟩:=a8.form_;have o1:decide (op < 2)=false:=decide_eq_false (by omega);have o2:decide (14 < op)=false:=decide_eq_false (by omega);have a2:decide ((N:Int)<=(H:Int))=false:=decide_eq_false (by omega);have a3:decide (N<=H)=false:=decide_eq_false (by omega);have a4:(H:Int) < (N:Int):=by omega
 haveI:Nonempty World:=⟨w⟩
 have bb:Hid (∀ (W:World) (pB qB:Option Addr) (nB cB mB eB:Nat),Bw w W->Nums .i64 W (.slice pB nB cB) aS->Nums .i64 W (.slice qB mB eB) ax->Calls Tryz.prog 45 #[.int .i64 op,.agg #[.slice pA nA cA,.slice qA mA eA],.agg #[.slice pB nB cB,.slice qB mB eB],.int .i64 L] W fun e w'=>∃ v',e = .returned (.tuple #[v',.int .i64 E])/\TRes w' W.heap.size v' D V/\Bw W w'):=fun W pB qB nB cB mB eB hW g1 g2=>HR.out W _ _ _ _ _ _ _ _ _ _ _ _ hW aR.cap (aR.nums.up hW) (a8.nums.up hW) g1 g2;clear aR a8 ar HR an bz bQ;have bl:Hid ((byP op/\L=k)∨(¬ byP op/\L=0)):=h3;clear h3;rcases h2 with ⟨h2,eV,bi,aL,eb,ao,ed,ex⟩|⟨h2,eV,ed,ex⟩
 case' inl=>
  have bx:bi < N:=by rw [<- eN];exact (List.getElem?_eq_some_iff.1 ao).1
  obtain ⟨q',bS,sB_,bW,bj,hx,_,_,_,_,az,aG,bc,ba⟩:=b_x ho aj eN bi bx;rw [ao] at hx;cases hx;obtain ⟨pB,nB,cB,rfl⟩:=bc.form_;obtain ⟨qB,mB,eB,rfl⟩:=ba.form_;rw [eq] at bj;cases bj;subst eq;have HC:Hid (∀ W,Bw w W->Calls Tryz.prog 45 #[.int .i64 op,.agg #[.slice pA nA cA,.slice qA mA eA],.agg #[.slice pB nB cB,.slice qB mB eB],.int .i64 L] W fun e w'=>∃ v',e = .returned (.tuple #[v',.int .i64 E])/\TRes w' W.heap.size v' D V/\Bw W w'):=fun W hW=>bb.out W _ _ _ _ _ _ hW (by rw [ed];exact bc.nums.up hW) (by rw [ex];exact ba.nums.up hW);have hq:decide (d_H op)=true:=decide_eq_true h2;have b2:decide ((N:Int)<=(bi:Int))=false:=decide_eq_false (by omega);have b3:decide (N<=bi)=false:=decide_eq_false (by omega);have b4:(bi:Int) < (N:Int):=by omega
  have am:Hid (w.cell? ⟨q,bi*6+4,none⟩=some (.slice pB nB cB)/\w.cell? ⟨q,bi*6+5,none⟩=some (.slice qB mB eB)/\R=(bi:Int)):=⟨az,aG,eV.trans eb⟩
  subst eb;clear bc ba ao az aG bx ed ex eV
 case' inr=>
  subst eq;obtain ⟨pB,nB,cB,qB,mB,eB,eY⟩:∃ (pB:Option Addr) (nB cB:Nat) (qB:Option Addr) (mB eB:Nat),(Value.slice none 0 0 = .slice pB nB cB/\Value.slice none 0 0 = .slice qB mB eB):=⟨_,_,_,_,_,_,rfl,rfl⟩
  have HC:Hid (∀ W,Bw w W->Calls Tryz.prog 45 #[.int .i64 op,.agg #[.slice pA nA cA,.slice qA mA eA],.agg #[.slice pB nB cB,.slice qB mB eB],.int .i64 L] W fun e w'=>∃ v',e = .returned (.tuple #[v',.int .i64 E])/\TRes w' W.heap.size v' D V/\Bw W w'):=fun W hW=>bb.out W _ _ _ _ _ _ hW (by rw [ed,<- eY.1];exact .inl ⟨rfl,rfl⟩) (by rw [ex,<- eY.2];exact .inl ⟨rfl,rfl⟩);have hq:decide (d_H op)=false:=decide_eq_false h2;have aN:Hid (R = -1/\(Value.slice none 0 0 = .slice pB nB cB/\Value.slice none 0 0 = .slice qB mB eB)):=⟨eV,eY⟩
  clear eY ed ex eV
 all_goals
  have b0:=a_b al;have HW:Hid (w.cell? ⟨O,0,none⟩=some (.slice (some ⟨q,0,none⟩) N cL)/\w.cell? ⟨q,H*6+4,none⟩=some (.slice pA nA cA)/\w.cell? ⟨q,H*6+5,none⟩=some (.slice qA mA eA)):=⟨bd,al,aF⟩
  clear hT hv ho aj aT al aF h2 bb;go_enter Tryz.func28,Tryz.ntmps28;go_wp2_with fail
  refine (k_F op _ hq w).mono ?_;rintro e w9 ⟨rfl,M⟩;have ew:=M.symm;subst ew;clear M;go_wp2_with fail
  generalize aO:alloc _ _=W0;have aa:Hid (Bw w W0):=by show Below _ _ _;rw [<- aO];go_grown
  have ae:W0.heap[w.heap.size]?=some (.cells #[.int .i64 op,.int .i64 (H:Int),.int .i64 (-1),.int .i64 0,.slice none 0 0,.slice none 0 0] 55 (0,0)):=by
   rw [<- aO,heap_alloc_old _ _ (by rw [size_alloc];omega)];exact heap_alloc_new _ _
  have af:W0.heap[w.heap.size+1]?=some (.cells #[.slice none 0 0,.slice none 0 0] 50 (0,0)):=by
   rw [<- aO,<- size_alloc w (.cells #[.int .i64 op,.int .i64 (H:Int),.int .i64 (-1),.int .i64 0,.slice none 0 0,.slice none 0 0] 55)];exact heap_alloc_new _ _
  clear aO;refine (k_F op _ hq W0).mono ?_;rintro e w9 ⟨rfl,M⟩;have ew:=M.symm;subst ew;clear M;clear hq;have n1:O≠w.heap.size:=by omega
  have n2:O≠w.heap.size+1:=by omega
  have n3:q≠w.heap.size:=by omega
  have n4:q≠w.heap.size+1:=by omega
 all_goals first
  |have bG:=am
   clear bG;obtain ⟨⟨_,_,k2,k3,k4,k5⟩,kf⟩:=g_i ae;obtain ⟨l0,l1,l2,l3⟩:=c_x af;have aC:=a_d HW.1 aa;have az:=a_d am.1 aa;have aG:=a_d am.2.1 aa;have s1:=a_k ae;have s2:=a_k af;go_wp2_with fail
   generalize aI:setCell _ _ _=W1
   have ak:W1.heap[w.heap.size]?=some (.cells #[.int .i64 op,.int .i64 (H:Int),.int .i64 R,.int .i64 0,.slice none 0 0,.slice none 0 0] 55 (0,0)):=by
    rw [am.2.2,<- aI,a_1 _ _ _ _ _ (by omega),a_1 _ _ _ _ _ (by omega),a_l ae];rfl
   have aJ:W1.heap[w.heap.size+1]?=some (.cells #[.slice pB nB cB,.slice qB mB eB] 50 (0,0)):=by
    have h0:(W0.setCell ⟨w.heap.size,2,none⟩ (.int .i64 (bi:Int))).heap[w.heap.size+1]?=some (.cells #[.slice none 0 0,.slice none 0 0] 50 (0,0)):=by
     rw [a_1 _ _ _ _ _ (by omega)];exact af
    rw [<- aI,a_l (a_l h0)];rfl
   have aM:Hid (Bw w W1):=by
    show Below _ _ _;rw [<- aI];exact ((aa.setCell (p:=⟨w.heap.size,2,none⟩) (Nat.le_refl _) _).setCell (p:=⟨w.heap.size+1,0,none⟩) (le_succ _) _).setCell (p:=⟨w.heap.size+1,1,none⟩) (le_succ _) _
   clear aI k2 k3 k4 k5 kf l0 l1 l2 l3 aC az aG s1 s2 ae af aa am
  |go_wp2_with fail
   obtain ⟨W1,a0⟩:∃ W1:World,W1=W0:=⟨_,rfl⟩
   rw [<- a0];rw [<- a0] at ae af aa;have ak:W1.heap[w.heap.size]?=some (.cells #[.int .i64 op,.int .i64 (H:Int),.int .i64 R,.int .i64 0,.slice none 0 0,.slice none 0 0] 55 (0,0)):=by rw [aN.1];exact ae
   have aJ:W1.heap[w.heap.size+1]?=some (.cells #[.slice pB nB cB,.slice qB mB eB] 50 (0,0)):=by
    rw [<- aN.2.1,<- aN.2.2];exact af
   have aM:=aa;clear ae af aa a0 aN
 all_goals
  rcases bl.out with ⟨h3,eK⟩|⟨h3,eK⟩
  case' inl=>
   refine (n_P op true (decide_eq_true h3) W1).mono ?_;rintro e w9 ⟨rfl,M⟩;have ew:=M.symm;subst ew;clear M;obtain ⟨⟨_,_,_,k3,_,_⟩,kf⟩:=g_i ak;have s1:=a_k ak;go_wp2_with fail
   refine a_Q (fun W2 ab=>?_)
   have ac:W2.heap[w.heap.size]?=some (.cells #[.int .i64 op,.int .i64 (H:Int),.int .i64 R,.int .i64 L,.slice none 0 0,.slice none 0 0] 55 (0,0)):=by
    rw [ab,a_l ak,eK];rfl
   have ah:W2.heap[w.heap.size+1]?=some (.cells #[.slice pB nB cB,.slice qB mB eB] 50 (0,0)):=by
    rw [ab,a_1 _ _ _ _ _ (by omega)];exact aJ
   have Z:Hid (Bw w W2):=by
    show Below _ _ _;rw [ab];exact aM.setCell (p:=⟨w.heap.size,3,none⟩) (Nat.le_refl _) _
   clear k3 kf s1
  case' inr=>
   refine (n_P op false (decide_eq_false h3) W1).mono ?_;rintro e w9 ⟨rfl,M⟩;have ew:=M.symm;subst ew;clear M;go_wp2_with fail
   refine a_Q (fun W2 ab=>?_);have ac:W2.heap[w.heap.size]?=some (.cells #[.int .i64 op,.int .i64 (H:Int),.int .i64 R,.int .i64 L,.slice none 0 0,.slice none 0 0] 55 (0,0)):=by rw [ab,eK];exact ak
   have ah:W2.heap[w.heap.size+1]?=some (.cells #[.slice pB nB cB,.slice qB mB eB] 50 (0,0)):=by rw [ab];exact aJ
   have Z:Hid (Bw w W2):=by show Below _ _ _;rw [ab];exact aM
  all_goals
   clear ab ak aJ aM bl h3 eK;have aC:=a_d HW.1 Z;have al:=a_d HW.2.1 Z;have aF:=a_d HW.2.2 Z;obtain ⟨⟨_,_,_,k3,_,_⟩,_⟩:=g_i ac;obtain ⟨y0,y1,_,_⟩:=c_x ah;have s0:=a_b aC;have s1:=a_k ac;have s2:=a_k ah;have s3:=a_b al;refine q_G [⟨12,91,TupP W2.heap.size D V E⟩,⟨13,78,TupP W2.heap.size D V E⟩,⟨14,92,OwnT W2.heap.size D V⟩,⟨16,14,NewC W2.heap.size⟩] 17 115 (by kernel_rfl) rfl rfl 15 _ rfl (by decide) rfl (by kernel_rfl) (by kernel_rfl) (fun _ _ _ _ h=>h) (by rfl) ?_ ?_
   ·exact upC (fun _ _ _=>TupP.up) (upC (fun _ _ _=>TupP.up) (upC (fun _ _ _=>OwnT.up) (upC (fun _ _ _=>NewC.up) upN)))
   apply Exists.intro;refine ⟨?_,?_,?_,?_⟩;rotate_left
   ·intro x;simp only [take_succ_cons,take_zero]
    iterate 12
     apply c_w;rfl;rfl
     ·intro F hF hf K hK hFc hFf
      go_big_quiet_op
      exact hK
     (try simp only [a_v])
    refine c_g rfl rfl ?_ ?_
    ·intro F hF hf d hFc hFf;simp [a_j,a_e,go_sem];refine (HC.out (F d) (a_c Z (hF.below d))).mono ?_;rintro e' w8 ⟨v8,rfl,h8,bI⟩;exact ⟨_,rfl,⟨v8,rfl,(h8.low (hF.below d).size).own⟩,bI⟩
    (try simp only [a_v])
    refine c_g rfl rfl ?_ ?_
    ·intro F hF hf d hFc hFf;have h9:=hf _ mS (by rfl) d;simp [a_j,a_e,go_sem];exact ⟨h9,Below.refl _ _⟩
    (try simp only [a_v])
    refine c_g rfl rfl ?_ ?_
    ·intro F hF hf d hFc hFf;have h9:=hf _ (mC mS) (by rfl) d;obtain ⟨u9,e9,n9⟩:=h9;simp only [] at e9 n9;simp [a_j,a_e,go_sem,e9];exact ⟨n9,Below.refl _ _⟩
    (try simp only [a_v])
    apply c_w;rfl;rfl
    ·intro F hF hf K hK hFc hFf;have h9:=hf _ (mC mS) (by rfl);obtain ⟨u9,e9,_⟩:=h9 w;simp only [] at e9
     go_big_quiet_op
     exact hK
    (try simp only [a_v])
    refine c_g rfl rfl ?_ ?_
    ·intro F hF hf d hFc hFf;simp [a_j,a_e,go_sem];exact ⟨⟨(F d).heap.size,rfl,heap_alloc_new (F d) _,(hF.below d).size⟩,a_a _ _⟩
    (try simp only [a_v])
    refine b_A ?_;exact rfl
   ·intro x;simp only [b_q,foldl_cons,foldl_nil,a_v]
   rotate_left
   ·intro x hx;obtain ⟨W9,u9,e9,_⟩:=hx _ (mC mS) (by rfl);simp only [] at e9;refine ⟨.int .i64 E,fun t ht=>?_,.inl ⟨by rfl,fun w=>?_⟩⟩
    ·cases ht;rfl
    ·simp [execOp,Act.eval,e9,go_sem]
   intro w3 ay aA hf;simp only [drop_succ_cons,drop_zero];have bs:=hf _ (mC (mC mS));have hN:=hf _ (mC (mC (mC mS)));obtain ⟨bV,bg⟩:∃ z,ay 12=z:=⟨_,rfl⟩
   obtain ⟨bX,bp⟩:∃ z,ay 13=z:=⟨_,rfl⟩
   obtain ⟨bT,a7⟩:∃ z,ay 14=z:=⟨_,rfl⟩
   obtain ⟨b5,a5⟩:∃ z,ay 16=z:=⟨_,rfl⟩
   simp only [a7] at bs;simp only [a5] at hN;simp only [bg,bp,a7,a5];clear bg bp a7 a5 hf aC al aF k3 y0 y1 s0 s1 s2 s3;obtain ⟨pa,na,ca,pb,nb,cb,rfl,aB,aZ⟩:=bs;obtain ⟨g,rfl,aQ,bh⟩:=hN;obtain ⟨bB,bL,bK,bF⟩:=c_x aQ;have aW:Hid (Bw w w3):=a_c Z aA;have au:w3.heap[w.heap.size]?=some (.cells #[.int .i64 op,.int .i64 (H:Int),.int .i64 R,.int .i64 L,.slice none 0 0,.slice none 0 0] 55 (0,0)):=by rw [aA.block _ (a_k ac)];exact ac
   have bA:w.heap.size+1 < g:=Nat.lt_of_lt_of_le (a_k ah) bh;by_cases hE:E=0
   case neg=>
    have bY:(E != 0)=true:=by simpa using hE
    obtain ⟨g1,g2⟩:=HG.2 hE;subst g1 g2;have HF:Hid (Bw w (set2 w3 g (.slice pa na ca) (.slice pb nb cb))):=a_q aW g (by omega) _ _;clear HG HC ac ah Z aB aZ aA hE au;go_wp2;exact bodyPost_ret (v:=.tuple #[.int .i64 0,.int .i64 E]) (by simp [results,Tryz.results28,go_sem]) rfl ⟨rfl,aw.out.up HF.out,HF.mono aP,Only.of HF.out,SpG.of HF.out⟩
   subst hE;obtain ⟨g1,g2⟩:=HG.1 rfl;subst g1 g2;clear HG HC;obtain ⟨⟨_,_,_,_,k4,k5⟩,kf⟩:=g_i au;have s1:=a_k au;have m1:w.heap.size≠g:=by omega
   have m2:g≠w.heap.size:=by omega
   clear n1 n2 n3 n4;go_wp2_with fail
   refine a_Q (fun w6 be=>?_)
   have aH:(set2 w3 g (.slice pa na ca) (.slice pb nb cb)).heap[w.heap.size]?=some (.cells #[.int .i64 op,.int .i64 (H:Int),.int .i64 R,.int .i64 L,.slice none 0 0,.slice none 0 0] 55 (0,0)):=by
    show (setCell _ _ _).heap[_]?=_;rw [a_1 _ _ _ _ _ m1,a_1 _ _ _ _ _ m1];exact au
   have aE:w6=((set2 w3 g (.slice pa na ca) (.slice pb nb cb)).setCell ⟨w.heap.size,4,none⟩ (.slice pa na ca)).setCell ⟨w.heap.size,5,none⟩ (.slice pb nb cb):=be
   have bo:w6.heap[w.heap.size]?=some (.cells #[.int .i64 op,.int .i64 (H:Int),.int .i64 R,.int .i64 L,.slice pa na ca,.slice pb nb cb] 55 (0,0)):=by
    rw [aE,a_l (a_l aH)];rfl
   have I:Bw w w6:=by
    rw [aE];exact ((a_q aW g (by omega) _ _).setCell (p:=⟨w.heap.size,4,none⟩) (Nat.le_refl _) _).setCell (p:=⟨w.heap.size,5,none⟩) (Nat.le_refl _) _
   have o6:Only [50,55] w3 w6:=by
    rw [aE];have h2:=a_l (o:=0) (x:=.slice pa na ca) aQ;exact (((Only.set aQ (by simp)).trans (Only.set h2 (by simp))).trans (Only.set aH (by simp))).trans (Only.set (a_l aH) (by simp))
   have a9:Hid (Below B w w6/\B<=w6.heap.size/\Only [43,55] w w6):=⟨I.mono aP,Nat.le_trans aP I.size,Only.of I⟩
   have aq:B<=W2.heap.size:=Nat.le_trans aP Z.size;have aU:Hid (NdC w6 B ⟨op,(H:Int),R,L,D,V⟩ [.int .i64 op,.int .i64 (H:Int),.int .i64 R,.int .i64 L,.slice pa na ca,.slice pb nb cb]):=⟨_,_,rfl,(aB.only o6 (by decide)).low aq,(aZ.only o6 (by decide)).low aq⟩
   have bv:=aw.out.up I;obtain ⟨pL,J,av,hv,ho,aj,aT⟩:=bv.head;rw [eN] at hv ho;have A:Hid (B<=O/\w6.heap[O]?=some (.cells #[.slice pL N J] 43 (0,0))/\ns.length=N/\w6.ownsRow B 55 6 (.slice pL N J) N av/\NdsC w6 B ns av):=⟨aw.1,hv,eN,ho,aj⟩
   have ap:∀ z,Value.ownBlock (.slice pL N J)=some z->z < w.heap.size:=fun z a1=>by
    have h3:=aw.out;obtain ⟨b7,b6,bZ,aY,bn,_,_⟩:=h3.head;rw [eN] at aY bn;have h4:=I.block O (a_k aY);rw [hv,aY] at h4;cases h4;exact (ownsRow.lt bn z a1).2
   have a6:Hid (w6.heap[w.heap.size]?=some (.cells #[.int .i64 op,.int .i64 (H:Int),.int .i64 R,.int .i64 L,.slice pa na ca,.slice pb nb cb] 55 (0,0))/\some w.heap.size≠Value.ownBlock (.slice pL N J)):=⟨bo,fun h=>by have:=ap _ h.symm;omega⟩
   have bC:Hid (∀ z,Value.ownBlock (.slice pL N J)=some z->z < w6.heap.size):=fun z a1=>Nat.lt_of_lt_of_le (ap z a1) I.size;have bO:Hid _:=aU.out.one;have bq:Hid ((∀ ad m c,Value.slice pa na ca = .slice (some ad) m c->w.heap.size<=ad.block)/\Bw w w6):=⟨fun ad m c e=>Nat.le_trans Z.size (g_0 aB ad m c e),I⟩
   clear hv ho aj aT ap bB bL bK bF k4 k5 kf s1 m1 m2 aH aE be o6 aB aZ bv I bo au aW aQ bh bA aA ac ah Z aq;refine a_7 (by kernel_rfl) ?_;refine seg (fun q W=>match q with|false=>Bw w6 W|true=>w6.grownBy W (Value.ownBlock (.slice pL N J))) (fun W W'=>W.grownBy W' (Value.ownBlock (.slice pL N J))) 7 [⟨6,105,LitS 55 w6.heap.size [.int .i64 op,.int .i64 (H:Int),.int .i64 R,.int .i64 L,.slice pa na ca,.slice pb nb cb]⟩,⟨7,106,OwnN 55 B (N+1) (av++[.int .i64 op,.int .i64 (H:Int),.int .i64 R,.int .i64 L,.slice pa na ca,.slice pb nb cb])⟩] 0 10 115 rfl rfl (by kernel_rfl) (by rfl) ?_ ?_ ?_ ?_ ?_ ?_
   ·intro q W W' h hb;cases q
    ·exact a_c h hb
    ·exact d_U h hb
   ·exact ⟨rfl,rfl,rfl,Nat.le_refl _,fun _ _=>rfl⟩
   ·exact .inl ⟨_,mC mS,rfl⟩
   ·exact upC (fun _ _ _=>LitS.up) (upC (fun _ _ _=>OwnN.up) upN)
   ·intro e he bJ v W W' h hc ht;simp only [mem_cons,not_mem_nil,or_false] at he;rcases he with rfl|rfl
    ·exact LitS.grown h ht bC.out
    ·exact absurd rfl bJ
   apply Exists.intro;refine ⟨fun x=>?_,?_,?_⟩
   ·simp only [drop_succ_cons,drop_zero,take_succ_cons,take_zero]
    iterate 4
     apply d_n;rfl;rfl
     ·intro b F hF hf K hK hFc
      go_big_quiet_op
      exact hK
     (try simp only [a_v])
    apply d_n;rfl;rfl
    ·intro b F hF hf K hK hFc
     have q0:∀ d,(F d).cell? ⟨O,0,none⟩=some (.slice pL N J):=fun d=>by
      have hK:w6.grownBy (F d) (Value.ownBlock (.slice pL N J)):=by
       cases b
       ·exact a_B _ (hFc d)
       ·exact hFc d
      exact hK.cell (a_P A.2.1).1 (Ne.symm (b_U i_H A.2.1 A.2.2.2.1))
     clear hFc
     go_big_quiet_op
     exact hK
    (try simp only [a_v])
    apply d_n;rfl;rfl
    ·intro b F hF hf K hK hFc
     have q0:∀ d,(F d).heap[w.heap.size]?=some (.cells #[.int .i64 op,.int .i64 (H:Int),.int .i64 R,.int .i64 L,.slice pa na ca,.slice pb nb cb] 55 (0,0)):=fun d=>by
      have hK:w6.grownBy (F d) (Value.ownBlock (.slice pL N J)):=by
       cases b
       ·exact a_B _ (hFc d)
       ·exact hFc d
      rw [hK.block _ (a_k a6.1) a6.2];exact a6.1
     have q1:=fun d=>(g_i (q0 d)).1.1;have q2:=fun d=>(g_i (q0 d)).1.2.1;have q3:=fun d=>(g_i (q0 d)).1.2.2.1;have q4:=fun d=>(g_i (q0 d)).1.2.2.2.1;have q5:=fun d=>(g_i (q0 d)).1.2.2.2.2.1;have q6:=fun d=>(g_i (q0 d)).1.2.2.2.2.2;clear hFc q0
     go_big_quiet_op
     exact hK
    (try simp only [a_v])
    refine a_U rfl (by decide) rfl ?_ ?_
    ·intro b F hF hf d;have hFc:=hF.cls
     have bu:w6.heap.size<=(F d).heap.size:=by
      cases b
      ·exact (hFc d).size
      ·exact (hFc d).size
     simp [a_j,a_e,go_sem];exact ⟨⟨(F d).heap.size,rfl,heap_alloc_new (F d) _,bu⟩,a_a _ _⟩
    (try simp only [a_v])
    refine c_P rfl rfl rfl ?_ ?_
    ·intro W hW hf;have h7:=hf _ mS (by rfl) W;obtain ⟨g7,e7,bH,_⟩:=h7;simp only [] at e7;obtain ⟨g8,c8,w8,bE,bP,aV⟩:=u_x t_c (by decide) 41 W B (.slice pL N J) N av (a_z (S:=[]) A.2.2.2.1 (Only.of hW) (by simp)) g7 [.int .i64 op,.int .i64 (H:Int),.int .i64 R,.int .i64 L,.slice pa na ca,.slice pb nb cb] bH rfl bO.out (by have:=hl.out;omega) (Nat.le_trans A.1 (Nat.le_trans (Nat.le_of_lt (a_k A.2.1)) (Below.size hW)));simp [b_i,a_Z,execOp,resolve,invoke,builtin,Act.eval,e7,bE,Result.andThen];exact ⟨bP,b_2 (a_B _ hW) aV,aV⟩
    iterate 2
     (try simp only [a_v])
     apply d_n;rfl;rfl
     ·intro b F hF hf K hK hFc
      go_big_quiet_op
      exact hK
    (try simp only [a_v])
    refine e_b ?_;exact rfl
   ·exact fun x=>rfl
   ·intro w8 bt bk br;have ag:=bk;refine c_z 10 (by kernel_rfl) ?_;simp only [drop_succ_cons,drop_zero];have h8:=br _ (mC mS);obtain ⟨x6,e6⟩:∃ z,bt 6=z:=⟨_,rfl⟩
    obtain ⟨x7,e7⟩:∃ z,bt 7=z:=⟨_,rfl⟩
    simp only [e7] at h8;simp only [e6,e7];obtain ⟨g8,c8,rfl,_,_⟩:=ownsRow.form h8 (by omega);obtain ⟨bm,bw⟩:=Tap.push (TT:=43) (NT:=55) i_H (by decide) (by decide) (nd:=⟨op,(H:Int),R,L,D,V⟩) A.1 A.2.1 (by rw [A.2.2.1];exact A.2.2.2.1) A.2.2.2.2 aU.out ag (by rw [A.2.2.1];exact h8)
    have aD:w8.heap[O]?=some (.cells #[.slice pL N J] 43 (0,0)):=by
     rw [ag.block O (a_k A.2.1) (Ne.symm (b_U i_H A.2.1 A.2.2.2.1))];exact A.2.1
    obtain ⟨r0,r1⟩:=a_P aD;have z0:=(a_P (v:=.slice (some ⟨g8,0,none⟩) (N+1) c8) (e:=43) (W:=w8.setCell ⟨O,0,none⟩ (.slice (some ⟨g8,0,none⟩) (N+1) c8)) (by rw [a_l aD];rfl)).1
    have HF:Hid (Tap 43 55 (w8.setCell ⟨O,0,none⟩ (.slice (some ⟨g8,0,none⟩) (N+1) c8)) B O (ns++[⟨op,(H:Int),R,L,D,V⟩])/\Below B w (w8.setCell ⟨O,0,none⟩ (.slice (some ⟨g8,0,none⟩) (N+1) c8))/\Only [43,55] w (w8.setCell ⟨O,0,none⟩ (.slice (some ⟨g8,0,none⟩) (N+1) c8))/\SpG 43 w.heap.size O w (w8.setCell ⟨O,0,none⟩ (.slice (some ⟨g8,0,none⟩) (N+1) c8))):=
     ⟨bm,(Below.grown a9.1 ag a9.2.1 (f_g A.2.2.2.1)).setCell (p:=⟨O,0,none⟩) A.1 _,a9.2.2.trans bw,fun x hx ha=>k_A i_H A.2.1 A.2.2.2.1 (by rw [A.2.2.2.2.1,A.2.2.1]) aD h8 rfl (fun ad m c e=>by have:=bq.1 ad m c e;omega) (ha.up bq.2)⟩
    clear bm bw bk ag h8 br aD;have bM:((N+1:Nat):Int) - 1=(N:Int):=by omega
    have bD:wrap64 (N:Int)=(N:Int):=by have:=hl.out;unfold wrap64;omega
    go_wp2;exact bodyPost_ret (v:=.tuple #[.int .i64 (N:Int),.int .i64 0]) (by simp [results,Tryz.results28,go_sem,bM,bD]) rfl ⟨rfl,HF.out⟩
end Go.Proofs.YtkfpainpomobfaaGreatDoor.Wd
