/- The code's Do where it comes to reckon. -/
import Derived.Test.YtjlofobnmjompaaGreatDoorT17
set_option linter.unusedVariables false
set_option linter.unusedSimpArgs false
set_option maxHeartbeats 16000000
set_option maxRecDepth 16000
namespace Go.Proofs.YtjlofobnmjompaaGreatDoor.Wd
open Go.RowKit Fx
theorem r_9 (B tb:Nat) (ns:List Nd) (op:Int) (I:Nat) (b k:Int) (aO:Nd) (av:ns[I]?=some aO) (ay az:List Int) (BV KV:Int) (h2:(c_0 op/\BV=b/\∃ (bi:Nat) (aG:Nd),b=(bi:Int)/\ns[bi]?=some aG/\ay=aG.D/\az=aG.X)∨(¬ c_0 op/\BV = -1/\ay = []/\az = [])) (h3:(byP op/\KV=k)∨(¬ byP op/\KV=0)) (ap:ns.length < 512) (E:Int) (D V:List Int) (RR:Int) (NS:List Nd) (HG:Hid ((E=0->RR=(ns.length:Int)/\NS=ns++[⟨op,(I:Int),BV,KV,D,V⟩])/\(E≠0->RR=0/\NS=ns))) (w:World) (hT:TapC w B tb ns)
  (HR:Hid (∀ (W:World) (pA qA O M:Option Addr) (nA cA mA eA L U R eB:Nat),Below w.heap.size w W->Nums .i64 W (.slice pA nA cA) aO.D->Nums .i64 W (.slice qA mA eA) aO.X->mA<=eA->Nums .i64 W (.slice O L U) ay->Nums .i64 W (.slice M R eB) az->Calls Tryz.prog 101 #[.int .i64 op,.agg #[.slice pA nA cA,.slice qA mA eA],.agg #[.slice O L U,.slice M R eB],.int .i64 k] W fun e w'=>∃ v',e = .returned (.tuple #[v',.int .i64 E])/\TRes w' W.heap.size v' D V/\Below W.heap.size W w')):
  Calls Tryz.prog 83 #[.pointer (some ⟨tb,0,none⟩),.int .i64 op,.int .i64 (I:Int),.int .i64 b,.int .i64 k] w fun e w'=>e = .returned (.tuple #[.int .i64 RR,.int .i64 E])/\TapC w' B tb NS/\Below B w w'/\Only SC w w'/\Spar2 tb w w':=by
 have aj:Hid (TapC w B tb ns):=hT;obtain ⟨pL,cL,bn,hv,ho,aP,aX⟩:=Tap.head hT;obtain ⟨N,eN⟩:∃ N,ns.length=N:=⟨_,rfl⟩
 rw [eN] at hv ho aX;have aq:=(b_H hv).1;have hz:=a_i hv;have aJ:Hid (B<=w.heap.size):=Nat.le_trans aj.out.1 (Nat.le_of_lt hz);have bd:I < N:=by rw [<- eN];exact (List.getElem?_eq_some_iff.1 av).1
 obtain ⟨q,bf,sA_,bk,eq,hx,_,_,_,_,am,aD,aL,aA⟩:=d_u ho aP eN I bd;rw [av] at hx;cases hx;obtain ⟨pA,nA,cA,rfl⟩:=aL.form_;obtain ⟨qA,mA,eA,rfl⟩:=aA.form_;have hf:decide (512<=ns.length)=false:=decide_eq_false (by omega);have ha:decide (0<=(I:Int)/\(I:Int) < (ns.length:Int))=true:=decide_eq_true (by omega);have a4:(I:Int) < (N:Int):=by omega
 have HL:Hid (ns.length < 512):=ap;haveI:Nonempty World:=⟨w⟩
 have aM:Hid (∀ (W:World) (O M:Option Addr) (L U R eB:Nat),Below w.heap.size w W->Nums .i64 W (.slice O L U) ay->Nums .i64 W (.slice M R eB) az->Calls Tryz.prog 101 #[.int .i64 op,.agg #[.slice pA nA cA,.slice qA mA eA],.agg #[.slice O L U,.slice M R eB],.int .i64 k] W fun e w'=>∃ v',e = .returned (.tuple #[v',.int .i64 E])/\TRes w' W.heap.size v' D V/\Below W.heap.size W w'):=fun W O M L U R eB hW g1 g2=>HR.out W _ _ _ _ _ _ _ _ _ _ _ _ hW (aL.nums.up hW) (aA.nums.up hW) aA.cap g1 g2;clear aL aA av HR ap;have a3:Hid ((byP op/\KV=k)∨(¬ byP op/\KV=0)):=h3;clear h3;rcases h2 with ⟨h2,eV,bi,aG,eb,ao,ed,ex⟩|⟨h2,eV,ed,ex⟩
 case' inl=>
  subst eV;have ar:bi < N:=by rw [<- eN];exact (List.getElem?_eq_some_iff.1 ao).1
  obtain ⟨q',be,sB_,bj,a5,hx,_,_,_,_,ag,ah,aI,aK⟩:=d_u ho aP eN bi ar;rw [ao] at hx;cases hx;obtain ⟨O,L,U,rfl⟩:=aI.form_;obtain ⟨M,R,eB,rfl⟩:=aK.form_;rw [eq] at a5;cases a5;subst eq;have HC:Hid (∀ W,Below w.heap.size w W->Calls Tryz.prog 101 #[.int .i64 op,.agg #[.slice pA nA cA,.slice qA mA eA],.agg #[.slice O L U,.slice M R eB],.int .i64 k] W fun e w'=>∃ v',e = .returned (.tuple #[v',.int .i64 E])/\TRes w' W.heap.size v' D V/\Below W.heap.size W w'):=fun W hW=>aM.out W _ _ _ _ _ _ hW (by rw [ed];exact aI.nums.up hW) (by rw [ex];exact aK.nums.up hW);have hq:decide (c_0 op)=true:=decide_eq_true h2;have hb:decide (0<=BV/\BV < (ns.length:Int))=true:=decide_eq_true (by omega);have aU:Hid (BV=(bi:Int)/\bi < N/\w.cell? ⟨q,bi*6+4,none⟩=some (.slice O L U)/\w.cell? ⟨q,bi*6+5,none⟩=some (.slice M R eB)):=⟨eb,ar,ag,ah⟩
  clear aI aK ao ag ah eb ar ed ex
 case' inr=>
  subst eq;obtain ⟨O,L,U,M,R,eB,eY⟩:∃ (O:Option Addr) (L U:Nat) (M:Option Addr) (R eB:Nat),(Value.slice none 0 0 = .slice O L U/\Value.slice none 0 0 = .slice M R eB):=⟨_,_,_,_,_,_,rfl,rfl⟩
  have HC:Hid (∀ W,Below w.heap.size w W->Calls Tryz.prog 101 #[.int .i64 op,.agg #[.slice pA nA cA,.slice qA mA eA],.agg #[.slice O L U,.slice M R eB],.int .i64 k] W fun e w'=>∃ v',e = .returned (.tuple #[v',.int .i64 E])/\TRes w' W.heap.size v' D V/\Below W.heap.size W w'):=fun W hW=>aM.out W _ _ _ _ _ _ hW (by rw [ed,<- eY.1];exact .inl ⟨rfl,rfl⟩) (by rw [ex,<- eY.2];exact .inl ⟨rfl,rfl⟩);have hq:decide (c_0 op)=false:=decide_eq_false h2;have aE:Hid (BV = -1/\(Value.slice none 0 0 = .slice O L U/\Value.slice none 0 0 = .slice M R eB)):=⟨eV,eY⟩
  clear eY ed ex eV
 all_goals
  have bm:=a_a am;have HW:Hid (w.cell? ⟨tb,0,none⟩=some (.slice (some ⟨q,0,none⟩) N cL)/\w.cell? ⟨q,I*6+4,none⟩=some (.slice pA nA cA)/\w.cell? ⟨q,I*6+5,none⟩=some (.slice qA mA eA)):=⟨aq,am,aD⟩
  clear hT hv ho aP aX am aD aq eN h2 aM;go_enter Tryz.func83,Tryz.ntmps83;go_wp2_with fail
  refine (c_e B tb ns false hf w aj.out).mono ?_;rintro e w9 ⟨rfl,H⟩;have ew:=H.symm;subst ew;clear H;go_wp2_with fail
  refine (c_R B tb ns (I:Int) true ha w aj.out).mono ?_;rintro e w9 ⟨rfl,H⟩;have ew:=H.symm;subst ew;clear H;go_wp2_with fail
  refine (f_K op _ hq w).mono ?_;rintro e w9 ⟨rfl,H⟩;have ew:=H.symm;subst ew;clear H;clear hf ha
 all_goals try
  have bb:=hb;clear bb;go_wp2_with fail
  refine (c_R B tb ns BV true hb w aj.out).mono ?_;rintro e w9 ⟨rfl,H⟩;have ew:=H.symm;subst ew;clear H;clear hb
 all_goals
  go_wp2_with fail
  generalize ax:World.alloc _ _=W0;have aa:Hid (Below w.heap.size w W0):=by show Below _ _ _;rw [<- ax];go_grown
  have af:W0.heap[w.heap.size]?=some (.cells #[.int .i64 op,.int .i64 (I:Int),.int .i64 (-1),.int .i64 0,.slice none 0 0,.slice none 0 0] 109 (0,0)):=by
   rw [<- ax,heap_alloc_old _ _ (by rw [e_x];omega)];exact heap_alloc_new _ _
  have ad:W0.heap[w.heap.size+1]?=some (.cells #[.slice none 0 0,.slice none 0 0] 64 (0,0)):=by
   rw [<- ax,<- e_x w (.cells #[.int .i64 op,.int .i64 (I:Int),.int .i64 (-1),.int .i64 0,.slice none 0 0,.slice none 0 0] 109)];exact heap_alloc_new _ _
  clear ax;refine (f_K op _ hq W0).mono ?_;rintro e w9 ⟨rfl,H⟩;have ew:=H.symm;subst ew;clear H hq;have n1:tb≠w.heap.size:=by omega
  have n2:tb≠w.heap.size+1:=by omega
  have n3:q≠w.heap.size:=by omega
  have n4:q≠w.heap.size+1:=by omega
 all_goals first
  |obtain ⟨eb,ar,ag,ah⟩:=aU.out
   subst eb;have b4:(bi:Int) < (N:Int):=by omega
   have au:=a_d HW.out.1 aa.out;replace ag:=a_d ag aa.out;replace ah:=a_d ah aa.out;have s0:=a_a au;have s3:=a_a ag;obtain ⟨⟨_,_,k2,_,_,_⟩,kf⟩:=g_m af;obtain ⟨l0,l1,l2,l3⟩:=c_o ad;have s1:=a_i af;have s2:=a_i ad;have bc:=kf 2;clear aU ar;go_wp2_with fail
   go_region;go_wp2_with fail
   generalize aH:World.drew _=W1
   have ae:W1.heap[w.heap.size]?=some (.cells #[.int .i64 op,.int .i64 (I:Int),.int .i64 (bi:Int),.int .i64 0,.slice none 0 0,.slice none 0 0] 109 (0,0)):=by
    rw [<- aH];show (World.setCell _ _ _).heap[w.heap.size]?=_;rw [a_T _ _ _ _ _ (by omega),a_T _ _ _ _ _ (by omega),a_m af];rfl
   have aB:W1.heap[w.heap.size+1]?=some (.cells #[.slice O L U,.slice M R eB] 64 (0,0)):=by
    have h0:(W0.setCell ⟨w.heap.size,2,none⟩ (.int .i64 (bi:Int))).heap[w.heap.size+1]?=some (.cells #[.slice none 0 0,.slice none 0 0] 64 (0,0)):=by
     rw [a_T _ _ _ _ _ (by omega)];exact ad
    rw [<- aH];show (World.setCell _ _ _).heap[w.heap.size+1]?=_;rw [a_m (a_m h0)];rfl
   have aC:Hid (Below w.heap.size w W1):=by
    show Below _ _ _;rw [<- aH];exact (((aa.out.setCell (p:=⟨w.heap.size,2,none⟩) (Nat.le_refl _) _).setCell (p:=⟨w.heap.size+1,0,none⟩) (Nat.le_succ _) _).setCell (p:=⟨w.heap.size+1,1,none⟩) (Nat.le_succ _) _).trans ⟨rfl,rfl,rfl,Nat.le_refl _,fun _ _=>rfl⟩
   obtain ⟨BV,a9⟩:∃ z,(bi:Int)=z:=⟨_,rfl⟩
   rw [a9] at ae HG;clear aH k2 kf bc l0 l1 l2 l3 s0 s1 s2 s3 au ag ah af ad aa
  |go_wp2_with fail
   obtain ⟨W1,aS⟩:∃ W1:World,W1=W0:=⟨_,rfl⟩
   rw [<- aS];rw [<- aS] at af ad aa;have ae:W1.heap[w.heap.size]?=some (.cells #[.int .i64 op,.int .i64 (I:Int),.int .i64 BV,.int .i64 0,.slice none 0 0,.slice none 0 0] 109 (0,0)):=by rw [aE.out.1];exact af
   have aB:W1.heap[w.heap.size+1]?=some (.cells #[.slice O L U,.slice M R eB] 64 (0,0)):=by
    rw [<- aE.out.2.1,<- aE.out.2.2];exact ad
   have aC:=aa;clear af ad aa aS aE
 all_goals
  rcases a3.out with ⟨h3,eK⟩|⟨h3,eK⟩
  case' inl=>
   subst eK;refine (h_X op true (decide_eq_true h3) W1).mono ?_;rintro e w9 ⟨rfl,H⟩;have ew:=H.symm;subst ew;clear H h3;obtain ⟨⟨_,_,_,k3,_,_⟩,kf⟩:=g_m ae;have s1:=a_i ae;go_wp2_with fail
   refine a_P (fun W2 ab=>?_)
   have an:W2.heap[w.heap.size]?=some (.cells #[.int .i64 op,.int .i64 (I:Int),.int .i64 BV,.int .i64 KV,.slice none 0 0,.slice none 0 0] 109 (0,0)):=by
    rw [ab,a_m ae];rfl
   have aF:W2.heap[w.heap.size+1]?=some (.cells #[.slice O L U,.slice M R eB] 64 (0,0)):=by
    rw [ab,a_T _ _ _ _ _ (by omega)];exact aB
   have J:Hid (Below w.heap.size w W2):=by
    show Below _ _ _;rw [ab];exact aC.out.setCell (p:=⟨w.heap.size,3,none⟩) (Nat.le_refl _) _
   clear k3 kf s1
  case' inr=>
   refine (h_X op false (decide_eq_false h3) W1).mono ?_;rintro e w9 ⟨rfl,H⟩;have ew:=H.symm;subst ew;clear H h3;go_wp2_with fail
   refine a_P (fun W2 ab=>?_);have an:W2.heap[w.heap.size]?=some (.cells #[.int .i64 op,.int .i64 (I:Int),.int .i64 BV,.int .i64 KV,.slice none 0 0,.slice none 0 0] 109 (0,0)):=by rw [ab,eK];exact ae
   have aF:W2.heap[w.heap.size+1]?=some (.cells #[.slice O L U,.slice M R eB] 64 (0,0)):=by rw [ab];exact aB
   have J:Hid (Below w.heap.size w W2):=by show Below _ _ _;rw [ab];exact aC.out
   clear eK
  all_goals
   clear ab ae aB aC a3;have au:=a_d HW.out.1 J.out;have am:=a_d HW.out.2.1 J.out;have aD:=a_d HW.out.2.2 J.out;obtain ⟨y0,y1,_,_⟩:=c_o aF;have s0:=a_a au;have s1:=a_i an;have s2:=a_i aF;have s3:=a_a am;refine l_v [⟨11,62,TupP W2.heap.size D V E⟩,⟨12,50,TupP W2.heap.size D V E⟩,⟨13,63,OwnT W2.heap.size D V⟩] 16 72 (by kernel_rfl) rfl rfl 14 _ rfl (by decide) rfl (by kernel_rfl) (by kernel_rfl) (fun _ _ _ _ h=>h) (by rfl) ?_ ?_
   ·intro e he v W W' h hb;simp only [List.mem_cons,List.not_mem_nil,or_false] at he;rcases he with rfl|rfl|rfl
    ·exact TupP.up h hb
    ·exact TupP.up h hb
    ·exact OwnT.up h hb
   apply Exists.intro;refine ⟨?_,?_,?_,?_⟩;rotate_left
   ·intro x;simp only [List.take_succ_cons,List.take_zero]
    iterate 11
     refine a_n rfl rfl ?_;apply Exists.intro;refine ⟨fun F hF hf K hK=>?_,?_⟩
     ·have hFc:=hF.cell;have hFf:=hF.frozen
      go_big_quiet_op
      exact hK
     (try simp only [c_J])
    refine a_p rfl rfl ?_ ?_
    ·intro F hF hf d;have hFc:=hF.cell;have hFf:=hF.frozen;simp [a_k,a_g,go_sem];refine (HC.out (F d) (a_c J.out (hF.below d))).mono ?_;rintro e' w8 ⟨v8,rfl,h8,ba⟩;exact ⟨_,rfl,⟨v8,rfl,(h8.low (hF.below d).size).own⟩,ba⟩
    (try simp only [c_J])
    refine a_p rfl rfl ?_ ?_
    ·intro F hF hf d;have hFc:=hF.cell;have hFf:=hF.frozen;have h9:=hf _ List.mem_cons_self (by rfl) d;simp [a_k,a_g,go_sem];exact ⟨h9,Below.refl _ _⟩
    (try simp only [c_J])
    refine a_p rfl rfl ?_ ?_
    ·intro F hF hf d;have hFc:=hF.cell;have hFf:=hF.frozen;have h9:=hf _ (List.mem_cons_of_mem _ List.mem_cons_self) (by rfl) d;obtain ⟨u9,e9,n9⟩:=h9;simp only [] at e9 n9;simp [a_k,a_g,go_sem,e9];exact ⟨n9,Below.refl _ _⟩
    (try simp only [c_J])
    refine a_n rfl rfl ?_;apply Exists.intro;refine ⟨fun F hF hf K hK=>?_,?_⟩
    ·have hFc:=hF.cell;have hFf:=hF.frozen;have h9:=hf _ (List.mem_cons_of_mem _ List.mem_cons_self) (by rfl);obtain ⟨u9,e9,_⟩:=h9 w;simp only [] at e9
     go_big_quiet_op
     exact hK
    (try simp only [c_J])
    refine a_n rfl rfl ?_;apply Exists.intro;refine ⟨fun F hF hf K hK=>?_,?_⟩
    ·have hFc:=hF.cell;have hFf:=hF.frozen
     go_big_quiet_op
     exact hK
    (try simp only [c_J])
    refine b_f ?_;exact rfl
   ·intro x;simp only [b_n,List.foldl_cons,List.foldl_nil,Act.put,sA_,sB_,sC_]
   rotate_left
   ·intro x hx;obtain ⟨W9,u9,e9,_⟩:=hx _ (List.mem_cons_of_mem _ List.mem_cons_self) (by rfl);simp only [] at e9;refine ⟨.int .i64 E,fun t ht=>?_,.inl ⟨by rfl,fun w=>?_⟩⟩
    ·cases ht;rfl
    ·simp [execOp,Act.eval,e9,go_sem]
   intro w3 aR aT hf;simp only [List.drop_succ_cons,List.drop_zero];have a8:=hf _ (List.mem_cons_of_mem _ (List.mem_cons_of_mem _ List.mem_cons_self));obtain ⟨bg,a2⟩:∃ z,aR 11=z:=⟨_,rfl⟩
   obtain ⟨bo,a0⟩:∃ z,aR 12=z:=⟨_,rfl⟩
   obtain ⟨bl,aQ⟩:∃ z,aR 13=z:=⟨_,rfl⟩
   simp only [aQ] at a8;simp only [a2,a0,aQ];clear a2 a0 aQ hf au am aD y0 y1 s0 s1 s2 s3;obtain ⟨pa,na,ca,pb,nb,cb,rfl,aN,a6⟩:=a8;have a1:Hid (Below w.heap.size w w3):=a_c J.out aT;have ak:w3.heap[w.heap.size]?=some (.cells #[.int .i64 op,.int .i64 (I:Int),.int .i64 BV,.int .i64 KV,.slice none 0 0,.slice none 0 0] 109 (0,0)):=by rw [aT.block _ (a_i an)];exact an
   obtain ⟨⟨_,_,_,_,k4,k5⟩,kf⟩:=g_m ak;have s1:=a_i ak
   have aZ:Hid (((w3.setCell ⟨w.heap.size,4,none⟩ (.slice pa na ca)).setCell ⟨w.heap.size,5,none⟩ (.slice pb nb cb)).heap[w.heap.size]?=some (.cells #[.int .i64 op,.int .i64 (I:Int),.int .i64 BV,.int .i64 KV,.slice pa na ca,.slice pb nb cb] 109 (0,0))):=by
    show _=_;rw [a_m (a_m ak)];rfl
   have ac:Hid (Below w.heap.size w ((w3.setCell ⟨w.heap.size,4,none⟩ (.slice pa na ca)).setCell ⟨w.heap.size,5,none⟩ (.slice pb nb cb))):=(a1.out.setCell (p:=⟨w.heap.size,4,none⟩) (Nat.le_refl _) _).setCell (p:=⟨w.heap.size,5,none⟩) (Nat.le_refl _) _;have o6:Only [109] w3 ((w3.setCell ⟨w.heap.size,4,none⟩ (.slice pa na ca)).setCell ⟨w.heap.size,5,none⟩ (.slice pb nb cb)):=(Only.set ak (by simp)).trans (Only.set (a_m ak) (by simp));have aw:B<=W2.heap.size:=Nat.le_trans aJ.out J.out.size;have HO:Hid (OwnK .i64 3 ((w3.setCell ⟨w.heap.size,4,none⟩ (.slice pa na ca)).setCell ⟨w.heap.size,5,none⟩ (.slice pb nb cb)) B (.slice pa na ca) D/\OwnK .i64 23 ((w3.setCell ⟨w.heap.size,4,none⟩ (.slice pa na ca)).setCell ⟨w.heap.size,5,none⟩ (.slice pb nb cb)) B (.slice pb nb cb) V/\OwnK .i64 3 ((w3.setCell ⟨w.heap.size,4,none⟩ (.slice pa na ca)).setCell ⟨w.heap.size,5,none⟩ (.slice pb nb cb)) w.heap.size (.slice pa na ca) D):=⟨(aN.only o6 (by decide)).low aw,(a6.only o6 (by decide)).low aw,(aN.only o6 (by decide)).low J.out.size⟩
   clear HC an aF J aN a6 aT ak o6 aw a1;by_cases hE:E=0
   case neg=>
    have bh:(E != 0)=true:=by simpa using hE
    obtain ⟨g1,g2⟩:=HG.out.2 hE;subst g1 g2;clear HG hE HO aZ;go_wp2;exact bodyPost_ret (v:=.tuple #[.int .i64 0,.int .i64 E]) (by simp [results,Tryz.results83,go_sem]) rfl ⟨rfl,aj.out.up ac.out,ac.out.mono aJ.out,Only.of ac.out,Spar2.of ac.out⟩
   subst hE;obtain ⟨g1,g2⟩:=HG.out.1 rfl;subst g1 g2;clear HG;go_wp2_with fail
   refine (j_Y B tb ns ⟨op,(I:Int),BV,KV,D,V⟩ pa pb na ca nb cb HL.out _ (aj.out.up ac.out) HO.out.1 HO.out.2.1).mono ?_;rintro e w7 ⟨rfl,aW,a7,aV,aY⟩;have HF:Hid (TapC w7 B tb (ns++[⟨op,(I:Int),BV,KV,D,V⟩])/\Below B w w7/\Only SC w w7/\Spar2 tb w w7):=⟨aW,h_Y (ac.out.mono aJ.out) a7,(Only.of ac.out).trans aV,Spar2.kept ac.out aY HO.out.2.2⟩
   clear aW a7 aV aY HO k4 k5 kf s1 aZ;go_wp2;exact bodyPost_ret (v:=.tuple #[.int .i64 (ns.length:Int),.int .i64 0]) (by simp [results,Tryz.results83,go_sem]) rfl ⟨rfl,HF.out⟩
end Go.Proofs.YtjlofobnmjompaaGreatDoor.Wd
