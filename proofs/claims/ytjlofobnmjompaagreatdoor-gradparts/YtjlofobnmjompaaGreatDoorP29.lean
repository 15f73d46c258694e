/- The code's Do where it comes to reckon. -/
import Derived.Test.YtjlofobnmjompaaGreatDoorP17
set_option linter.unusedVariables false
set_option linter.unusedSimpArgs false
set_option maxHeartbeats 16000000
set_option maxRecDepth 16000
namespace Go.Proofs.YtjlofobnmjompaaGreatDoor.Wd
open Go.RowKit Fx
theorem r_8 (B tb:Nat) (ns:List Nd) (op:Int) (I:Nat) (b k:Int) (aN:Nd) (aq:ns[I]?=some aN) (aF aG:List Int) (BV KV:Int) (h2:(d_A op/\BV=b/\∃ (bi:Nat) (aB:Nd),b=(bi:Int)/\ns[bi]?=some aB/\aF=aB.D/\aG=aB.X)∨(¬ d_A op/\BV = -1/\aF = []/\aG = [])) (h3:(byP op/\KV=k)∨(¬ byP op/\KV=0)) (an:ns.length < 512) (E:Int) (D V:List Int) (RR:Int) (NS:List Nd) (HG:Hid ((E=0->RR=(ns.length:Int)/\NS=ns++[⟨op,(I:Int),BV,KV,D,V⟩])/\(E≠0->RR=0/\NS=ns))) (w:World) (hT:TapC w B tb ns)
  (HR:Hid (∀ (W:World) (pA qA L R:Option Addr) (nA cA mA eA M cB U O:Nat),Below w.heap.size w W->Nums .i64 W (.slice pA nA cA) aN.D->Nums .i64 W (.slice qA mA eA) aN.X->mA<=eA->Nums .i64 W (.slice L M cB) aF->Nums .i64 W (.slice R U O) aG->Calls Tryz.prog 101 #[.int .i64 op,.agg #[.slice pA nA cA,.slice qA mA eA],.agg #[.slice L M cB,.slice R U O],.int .i64 k] W fun e w'=>∃ v',e = .returned (.tuple #[v',.int .i64 E])/\TRes w' W.heap.size v' D V/\Below W.heap.size W w')):
  Calls Tryz.prog 83 #[.pointer (some ⟨tb,0,none⟩),.int .i64 op,.int .i64 (I:Int),.int .i64 b,.int .i64 k] w fun e w'=>e = .returned (.tuple #[.int .i64 RR,.int .i64 E])/\TapC w' B tb NS/\Below B w w'/\Only SC w w'/\Spar2 tb w w':=by
 have aj:Hid (TapC w B tb ns):=hT;obtain ⟨pL,cL,bj,hv,ho,aL,aZ⟩:=Tap.head hT;obtain ⟨N,eN⟩:∃ N,ns.length=N:=⟨_,rfl⟩
 rw [eN] at hv ho aZ;have av:=(b_G hv).1;have hz:=a_i hv;have aK:Hid (B<=w.heap.size):=Nat.le_trans aj.out.1 (Nat.le_of_lt hz);have a9:I < N:=by rw [<- eN];exact (List.getElem?_eq_some_iff.1 aq).1
 obtain ⟨q,bf,sA_,bk,eq,hx,_,_,_,_,am,az,aR,aA⟩:=d_v ho aL eN I a9;rw [aq] at hx;cases hx;obtain ⟨pA,nA,cA,rfl⟩:=aR.form_;obtain ⟨qA,mA,eA,rfl⟩:=aA.form_;have hf:decide (512<=ns.length)=false:=decide_eq_false (by omega);have ha:decide (0<=(I:Int)/\(I:Int) < (ns.length:Int))=true:=decide_eq_true (by omega);have a4:(I:Int) < (N:Int):=by omega
 have HL:Hid (ns.length < 512):=an;haveI:Nonempty World:=⟨w⟩
 have aM:Hid (∀ (W:World) (L R:Option Addr) (M cB U O:Nat),Below w.heap.size w W->Nums .i64 W (.slice L M cB) aF->Nums .i64 W (.slice R U O) aG->Calls Tryz.prog 101 #[.int .i64 op,.agg #[.slice pA nA cA,.slice qA mA eA],.agg #[.slice L M cB,.slice R U O],.int .i64 k] W fun e w'=>∃ v',e = .returned (.tuple #[v',.int .i64 E])/\TRes w' W.heap.size v' D V/\Below W.heap.size W w'):=fun W L R M cB U O hW g1 g2=>HR.out W _ _ _ _ _ _ _ _ _ _ _ _ hW (aR.nums.up hW) (aA.nums.up hW) aA.cap g1 g2;clear aR aA aq HR an;have a2:Hid ((byP op/\KV=k)∨(¬ byP op/\KV=0)):=h3;clear h3;rcases h2 with ⟨h2,eV,bi,aB,eb,ao,ed,ex⟩|⟨h2,eV,ed,ex⟩
 case' inl=>
  subst eV;have ar:bi < N:=by rw [<- eN];exact (List.getElem?_eq_some_iff.1 ao).1
  obtain ⟨q',be,sB_,bh,a8,hx,_,_,_,_,ae,ah,aT,aQ⟩:=d_v ho aL eN bi ar;rw [ao] at hx;cases hx;obtain ⟨L,M,cB,rfl⟩:=aT.form_;obtain ⟨R,U,O,rfl⟩:=aQ.form_;rw [eq] at a8;cases a8;subst eq;have HC:Hid (∀ W,Below w.heap.size w W->Calls Tryz.prog 101 #[.int .i64 op,.agg #[.slice pA nA cA,.slice qA mA eA],.agg #[.slice L M cB,.slice R U O],.int .i64 k] W fun e w'=>∃ v',e = .returned (.tuple #[v',.int .i64 E])/\TRes w' W.heap.size v' D V/\Below W.heap.size W w'):=fun W hW=>aM.out W _ _ _ _ _ _ hW (by rw [ed];exact aT.nums.up hW) (by rw [ex];exact aQ.nums.up hW);have hq:decide (d_A op)=true:=decide_eq_true h2;have hb:decide (0<=BV/\BV < (ns.length:Int))=true:=decide_eq_true (by omega);have a7:Hid (BV=(bi:Int)/\bi < N/\w.cell? ⟨q,bi*6+4,none⟩=some (.slice L M cB)/\w.cell? ⟨q,bi*6+5,none⟩=some (.slice R U O)):=⟨eb,ar,ae,ah⟩
  clear aT aQ ao ae ah eb ar ed ex
 case' inr=>
  subst eq;obtain ⟨L,M,cB,R,U,O,eY⟩:∃ (L:Option Addr) (M cB:Nat) (R:Option Addr) (U O:Nat),(Value.slice none 0 0 = .slice L M cB/\Value.slice none 0 0 = .slice R U O):=⟨_,_,_,_,_,_,rfl,rfl⟩
  have HC:Hid (∀ W,Below w.heap.size w W->Calls Tryz.prog 101 #[.int .i64 op,.agg #[.slice pA nA cA,.slice qA mA eA],.agg #[.slice L M cB,.slice R U O],.int .i64 k] W fun e w'=>∃ v',e = .returned (.tuple #[v',.int .i64 E])/\TRes w' W.heap.size v' D V/\Below W.heap.size W w'):=fun W hW=>aM.out W _ _ _ _ _ _ hW (by rw [ed,<- eY.1];exact .inl ⟨rfl,rfl⟩) (by rw [ex,<- eY.2];exact .inl ⟨rfl,rfl⟩);have hq:decide (d_A op)=false:=decide_eq_false h2;have aC:Hid (BV = -1/\(Value.slice none 0 0 = .slice L M cB/\Value.slice none 0 0 = .slice R U O)):=⟨eV,eY⟩
  clear eY ed ex eV
 all_goals
  have bl:=a_a am;have HW:Hid (w.cell? ⟨tb,0,none⟩=some (.slice (some ⟨q,0,none⟩) N cL)/\w.cell? ⟨q,I*6+4,none⟩=some (.slice pA nA cA)/\w.cell? ⟨q,I*6+5,none⟩=some (.slice qA mA eA)):=⟨av,am,az⟩
  clear hT hv ho aL aZ am az av eN h2 aM;go_enter Tryz.func83,Tryz.ntmps83;go_wp2_with fail
  refine (c_e B tb ns false hf w aj.out).mono ?_;rintro e w9 ⟨rfl,H⟩;have ew:=H.symm;subst ew;clear H;go_wp2_with fail
  refine (c_R B tb ns (I:Int) true ha w aj.out).mono ?_;rintro e w9 ⟨rfl,H⟩;have ew:=H.symm;subst ew;clear H;go_wp2_with fail
  refine (f_L op _ hq w).mono ?_;rintro e w9 ⟨rfl,H⟩;have ew:=H.symm;subst ew;clear H;clear hf ha
 all_goals try
  have bc:=hb;clear bc;go_wp2_with fail
  refine (c_R B tb ns BV true hb w aj.out).mono ?_;rintro e w9 ⟨rfl,H⟩;have ew:=H.symm;subst ew;clear H;clear hb
 all_goals
  go_wp2_with fail
  generalize ay:World.alloc _ _=W0;have aa:Hid (Below w.heap.size w W0):=by show Below _ _ _;rw [<- ay];go_grown
  have ag:W0.heap[w.heap.size]?=some (.cells #[.int .i64 op,.int .i64 (I:Int),.int .i64 (-1),.int .i64 0,.slice none 0 0,.slice none 0 0] 109 (0,0)):=by
   rw [<- ay,heap_alloc_old _ _ (by rw [e_x];omega)];exact heap_alloc_new _ _
  have ad:W0.heap[w.heap.size+1]?=some (.cells #[.slice none 0 0,.slice none 0 0] 64 (0,0)):=by
   rw [<- ay,<- e_x w (.cells #[.int .i64 op,.int .i64 (I:Int),.int .i64 (-1),.int .i64 0,.slice none 0 0,.slice none 0 0] 109)];exact heap_alloc_new _ _
  clear ay;refine (f_L op _ hq W0).mono ?_;rintro e w9 ⟨rfl,H⟩;have ew:=H.symm;subst ew;clear H hq;have n1:tb≠w.heap.size:=by omega
  have n2:tb≠w.heap.size+1:=by omega
  have n3:q≠w.heap.size:=by omega
  have n4:q≠w.heap.size+1:=by omega
 all_goals first
  |obtain ⟨eb,ar,ae,ah⟩:=a7.out
   subst eb;have b4:(bi:Int) < (N:Int):=by omega
   have au:=a_d HW.out.1 aa.out;replace ae:=a_d ae aa.out;replace ah:=a_d ah aa.out;have s0:=a_a au;have s3:=a_a ae;obtain ⟨⟨_,_,k2,_,_,_⟩,kf⟩:=g_m ag;obtain ⟨l0,l1,l2,l3⟩:=c_o ad;have s1:=a_i ag;have s2:=a_i ad;have bd:=kf 2;clear a7 ar;go_wp2_with fail
   go_region;go_wp2_with fail
   generalize ax:World.drew _=W1
   have af:W1.heap[w.heap.size]?=some (.cells #[.int .i64 op,.int .i64 (I:Int),.int .i64 (bi:Int),.int .i64 0,.slice none 0 0,.slice none 0 0] 109 (0,0)):=by
    rw [<- ax];show (World.setCell _ _ _).heap[w.heap.size]?=_;rw [a_U _ _ _ _ _ (by omega),a_U _ _ _ _ _ (by omega),a_n ag];rfl
   have aE:W1.heap[w.heap.size+1]?=some (.cells #[.slice L M cB,.slice R U O] 64 (0,0)):=by
    have h0:(W0.setCell ⟨w.heap.size,2,none⟩ (.int .i64 (bi:Int))).heap[w.heap.size+1]?=some (.cells #[.slice none 0 0,.slice none 0 0] 64 (0,0)):=by
     rw [a_U _ _ _ _ _ (by omega)];exact ad
    rw [<- ax];show (World.setCell _ _ _).heap[w.heap.size+1]?=_;rw [a_n (a_n h0)];rfl
   have aD:Hid (Below w.heap.size w W1):=by
    show Below _ _ _;rw [<- ax];exact (((aa.out.setCell (p:=⟨w.heap.size,2,none⟩) (Nat.le_refl _) _).setCell (p:=⟨w.heap.size+1,0,none⟩) (Nat.le_succ _) _).setCell (p:=⟨w.heap.size+1,1,none⟩) (Nat.le_succ _) _).trans ⟨rfl,rfl,rfl,Nat.le_refl _,fun _ _=>rfl⟩
   obtain ⟨BV,bb⟩:∃ z,(bi:Int)=z:=⟨_,rfl⟩
   rw [bb] at af HG;clear ax k2 kf bd l0 l1 l2 l3 s0 s1 s2 s3 au ae ah ag ad aa
  |go_wp2_with fail
   obtain ⟨W1,aJ⟩:∃ W1:World,W1=W0:=⟨_,rfl⟩
   rw [<- aJ];rw [<- aJ] at ag ad aa;have af:W1.heap[w.heap.size]?=some (.cells #[.int .i64 op,.int .i64 (I:Int),.int .i64 BV,.int .i64 0,.slice none 0 0,.slice none 0 0] 109 (0,0)):=by rw [aC.out.1];exact ag
   have aE:W1.heap[w.heap.size+1]?=some (.cells #[.slice L M cB,.slice R U O] 64 (0,0)):=by
    rw [<- aC.out.2.1,<- aC.out.2.2];exact ad
   have aD:=aa;clear ag ad aa aJ aC
 all_goals
  rcases a2.out with ⟨h3,eK⟩|⟨h3,eK⟩
  case' inl=>
   subst eK;refine (h_0 op true (decide_eq_true h3) W1).mono ?_;rintro e w9 ⟨rfl,H⟩;have ew:=H.symm;subst ew;clear H h3;obtain ⟨⟨_,_,_,k3,_,_⟩,kf⟩:=g_m af;have s1:=a_i af;go_wp2_with fail
   refine a_Q (fun W2 ac=>?_)
   have aw:W2.heap[w.heap.size]?=some (.cells #[.int .i64 op,.int .i64 (I:Int),.int .i64 BV,.int .i64 KV,.slice none 0 0,.slice none 0 0] 109 (0,0)):=by
    rw [ac,a_n af];rfl
   have aH:W2.heap[w.heap.size+1]?=some (.cells #[.slice L M cB,.slice R U O] 64 (0,0)):=by
    rw [ac,a_U _ _ _ _ _ (by omega)];exact aE
   have J:Hid (Below w.heap.size w W2):=by
    show Below _ _ _;rw [ac];exact aD.out.setCell (p:=⟨w.heap.size,3,none⟩) (Nat.le_refl _) _
   clear k3 kf s1
  case' inr=>
   refine (h_0 op false (decide_eq_false h3) W1).mono ?_;rintro e w9 ⟨rfl,H⟩;have ew:=H.symm;subst ew;clear H h3;go_wp2_with fail
   refine a_Q (fun W2 ac=>?_);have aw:W2.heap[w.heap.size]?=some (.cells #[.int .i64 op,.int .i64 (I:Int),.int .i64 BV,.int .i64 KV,.slice none 0 0,.slice none 0 0] 109 (0,0)):=by rw [ac,eK];exact af
   have aH:W2.heap[w.heap.size+1]?=some (.cells #[.slice L M cB,.slice R U O] 64 (0,0)):=by rw [ac];exact aE
   have J:Hid (Below w.heap.size w W2):=by show Below _ _ _;rw [ac];exact aD.out
   clear eK
  all_goals
   clear ac af aE aD a2;have au:=a_d HW.out.1 J.out;have am:=a_d HW.out.2.1 J.out;have az:=a_d HW.out.2.2 J.out;obtain ⟨y0,y1,_,_⟩:=c_o aH;have s0:=a_a au;have s1:=a_i aw;have s2:=a_i aH;have s3:=a_a am;refine l_A [⟨11,62,TupP W2.heap.size D V E⟩,⟨12,50,TupP W2.heap.size D V E⟩,⟨13,63,OwnT W2.heap.size D V⟩] 16 72 (by kernel_rfl) rfl rfl 14 _ rfl (by decide) rfl (by kernel_rfl) (by kernel_rfl) (fun _ _ _ _ h=>h) (by rfl) ?_ ?_
   ·intro e he v W W' h hb;simp only [List.mem_cons,List.not_mem_nil,or_false] at he;rcases he with rfl|rfl|rfl
    ·exact TupP.up h hb
    ·exact TupP.up h hb
    ·exact OwnT.up h hb
   apply Exists.intro;refine ⟨?_,?_,?_,?_⟩;rotate_left
   ·intro x;simp only [List.take_succ_cons,List.take_zero]
    iterate 11
     refine a_l rfl rfl ?_;apply Exists.intro;refine ⟨fun F hF hf K hK=>?_,?_⟩
     ·have hFc:=hF.cell;have hFf:=hF.frozen
      go_big_quiet_op
      exact hK
     (try simp only [c_I])
    refine a_o rfl rfl ?_ ?_
    ·intro F hF hf d;have hFc:=hF.cell;have hFf:=hF.frozen;simp [a_j,a_f,go_sem];refine (HC.out (F d) (a_c J.out (hF.below d))).mono ?_;rintro e' w8 ⟨v8,rfl,h8,ba⟩;exact ⟨_,rfl,⟨v8,rfl,(h8.low (hF.below d).size).own⟩,ba⟩
    (try simp only [c_I])
    refine a_o rfl rfl ?_ ?_
    ·intro F hF hf d;have hFc:=hF.cell;have hFf:=hF.frozen;have h9:=hf _ List.mem_cons_self (by rfl) d;simp [a_j,a_f,go_sem];exact ⟨h9,Below.refl _ _⟩
    (try simp only [c_I])
    refine a_o rfl rfl ?_ ?_
    ·intro F hF hf d;have hFc:=hF.cell;have hFf:=hF.frozen;have h9:=hf _ (List.mem_cons_of_mem _ List.mem_cons_self) (by rfl) d;obtain ⟨u9,e9,n9⟩:=h9;simp only [] at e9 n9;simp [a_j,a_f,go_sem,e9];exact ⟨n9,Below.refl _ _⟩
    (try simp only [c_I])
    refine a_l rfl rfl ?_;apply Exists.intro;refine ⟨fun F hF hf K hK=>?_,?_⟩
    ·have hFc:=hF.cell;have hFf:=hF.frozen;have h9:=hf _ (List.mem_cons_of_mem _ List.mem_cons_self) (by rfl);obtain ⟨u9,e9,_⟩:=h9 w;simp only [] at e9
     go_big_quiet_op
     exact hK
    (try simp only [c_I])
    refine a_l rfl rfl ?_;apply Exists.intro;refine ⟨fun F hF hf K hK=>?_,?_⟩
    ·have hFc:=hF.cell;have hFf:=hF.frozen
     go_big_quiet_op
     exact hK
    (try simp only [c_I])
    refine b_a ?_;exact rfl
   ·intro x;simp only [b_k,List.foldl_cons,List.foldl_nil,Act.put,sA_,sB_,sC_]
   rotate_left
   ·intro x hx;obtain ⟨W9,u9,e9,_⟩:=hx _ (List.mem_cons_of_mem _ List.mem_cons_self) (by rfl);simp only [] at e9;refine ⟨.int .i64 E,fun t ht=>?_,.inl ⟨by rfl,fun w=>?_⟩⟩
    ·cases ht;rfl
    ·simp [execOp,Act.eval,e9,go_sem]
   intro w3 aS aP hf;simp only [List.drop_succ_cons,List.drop_zero];have a0:=hf _ (List.mem_cons_of_mem _ (List.mem_cons_of_mem _ List.mem_cons_self));obtain ⟨bg,aV⟩:∃ z,aS 11=z:=⟨_,rfl⟩
   obtain ⟨bm,a1⟩:∃ z,aS 12=z:=⟨_,rfl⟩
   obtain ⟨bo,aI⟩:∃ z,aS 13=z:=⟨_,rfl⟩
   simp only [aI] at a0;simp only [aV,a1,aI];clear aV a1 aI hf au am az y0 y1 s0 s1 s2 s3;obtain ⟨pa,na,ca,pb,nb,cb,rfl,aO,a6⟩:=a0;have a3:Hid (Below w.heap.size w w3):=a_c J.out aP;have ak:w3.heap[w.heap.size]?=some (.cells #[.int .i64 op,.int .i64 (I:Int),.int .i64 BV,.int .i64 KV,.slice none 0 0,.slice none 0 0] 109 (0,0)):=by rw [aP.block _ (a_i aw)];exact aw
   obtain ⟨⟨_,_,_,_,k4,k5⟩,kf⟩:=g_m ak;have s1:=a_i ak
   have a5:Hid (((w3.setCell ⟨w.heap.size,4,none⟩ (.slice pa na ca)).setCell ⟨w.heap.size,5,none⟩ (.slice pb nb cb)).heap[w.heap.size]?=some (.cells #[.int .i64 op,.int .i64 (I:Int),.int .i64 BV,.int .i64 KV,.slice pa na ca,.slice pb nb cb] 109 (0,0))):=by
    show _=_;rw [a_n (a_n ak)];rfl
   have ab:Hid (Below w.heap.size w ((w3.setCell ⟨w.heap.size,4,none⟩ (.slice pa na ca)).setCell ⟨w.heap.size,5,none⟩ (.slice pb nb cb))):=(a3.out.setCell (p:=⟨w.heap.size,4,none⟩) (Nat.le_refl _) _).setCell (p:=⟨w.heap.size,5,none⟩) (Nat.le_refl _) _;have o6:Only [109] w3 ((w3.setCell ⟨w.heap.size,4,none⟩ (.slice pa na ca)).setCell ⟨w.heap.size,5,none⟩ (.slice pb nb cb)):=(Only.set ak (by simp)).trans (Only.set (a_n ak) (by simp));have ap:B<=W2.heap.size:=Nat.le_trans aK.out J.out.size;have HO:Hid (OwnK .i64 3 ((w3.setCell ⟨w.heap.size,4,none⟩ (.slice pa na ca)).setCell ⟨w.heap.size,5,none⟩ (.slice pb nb cb)) B (.slice pa na ca) D/\OwnK .i64 23 ((w3.setCell ⟨w.heap.size,4,none⟩ (.slice pa na ca)).setCell ⟨w.heap.size,5,none⟩ (.slice pb nb cb)) B (.slice pb nb cb) V/\OwnK .i64 3 ((w3.setCell ⟨w.heap.size,4,none⟩ (.slice pa na ca)).setCell ⟨w.heap.size,5,none⟩ (.slice pb nb cb)) w.heap.size (.slice pa na ca) D):=⟨(aO.only o6 (by decide)).low ap,(a6.only o6 (by decide)).low ap,(aO.only o6 (by decide)).low J.out.size⟩
   clear HC aw aH J aO a6 aP ak o6 ap a3;by_cases hE:E=0
   case neg=>
    have bn:(E != 0)=true:=by simpa using hE
    obtain ⟨g1,g2⟩:=HG.out.2 hE;subst g1 g2;clear HG hE HO a5;go_wp2;exact bodyPost_ret (v:=.tuple #[.int .i64 0,.int .i64 E]) (by simp [results,Tryz.results83,go_sem]) rfl ⟨rfl,aj.out.up ab.out,ab.out.mono aK.out,Only.of ab.out,Spar2.of ab.out⟩
   subst hE;obtain ⟨g1,g2⟩:=HG.out.1 rfl;subst g1 g2;clear HG;go_wp2_with fail
   refine (j_X B tb ns ⟨op,(I:Int),BV,KV,D,V⟩ pa pb na ca nb cb HL.out _ (aj.out.up ab.out) HO.out.1 HO.out.2.1).mono ?_;rintro e w7 ⟨rfl,aW,aU,aX,aY⟩;have HF:Hid (TapC w7 B tb (ns++[⟨op,(I:Int),BV,KV,D,V⟩])/\Below B w w7/\Only SC w w7/\Spar2 tb w w7):=⟨aW,h_1 (ab.out.mono aK.out) aU,(Only.of ab.out).trans aX,Spar2.kept ab.out aY HO.out.2.2⟩
   clear aW aU aX aY HO k4 k5 kf s1 a5;go_wp2;exact bodyPost_ret (v:=.tuple #[.int .i64 (ns.length:Int),.int .i64 0]) (by simp [results,Tryz.results83,go_sem]) rfl ⟨rfl,HF.out⟩
end Go.Proofs.YtjlofobnmjompaaGreatDoor.Wd
