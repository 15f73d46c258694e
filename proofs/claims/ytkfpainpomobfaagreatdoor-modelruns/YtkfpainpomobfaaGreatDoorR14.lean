/- The code's reckon: the document's table. -/
import Derived.Test.YtkfpainpomobfaaGreatDoorR13
import Derived.Test.YtkfpainpomobfaaGreatDoorR12
set_option linter.unusedVariables false
set_option linter.unusedSimpArgs false
set_option maxHeartbeats 16000000
set_option maxRecDepth 16000
namespace Go.Proofs.YtkfpainpomobfaaGreatDoor.Wd
open Go.RowKit Fx List World Nat
/-- What reckon tells at one Op. -/
def CkP (op:Int):Prop:=∀ (p p2 p3 p4:Option Addr) (n c n2 c2 n3 c3 n4 c4:Nat) (dd yy d' y':List Int) (K:Int) (hK:InR K) (hg:f_q dd yy) (hd':RI d') (hy':RI y') (hc2:n2<=c2) (w:World) (hT:Hid (Tz w)) (h1:Nums .i64 w (.slice p n c) dd) (h2:Nums .i64 w (.slice p2 n2 c2) yy) (h3:Nums .i64 w (.slice p3 n3 c3) d') (h4:Nums .i64 w (.slice p4 n4 c4) y'),
  Calls Tryz.prog 93 #[.int .i64 op,.agg #[.slice p n c,.slice p2 n2 c2],.agg #[.slice p3 n3 c3,.slice p4 n4 c4],.int .i64 K] w fun e w'=>∃ v',e = .returned (.tuple #[v',.int .i64 (rkE op dd yy d' y' K)])/\TRes w' w.heap.size v' (rkD op dd yy d' y' K) (rkV op dd yy d' y' K)/\Bw w w'
theorem n_l {op:Int} {f:FuncId} {args:Array Value} {p I O L:Option Addr} {n c H A R J M Z:Nat} {K E:Int} {D V:List Int} {w:World} (h:(op=2/\f=116/\args=#[.agg #[.slice p n c,.slice I H A],.agg #[.slice O R J,.slice L M Z]])∨(op=3/\f=117/\args=#[.agg #[.slice p n c,.slice I H A],.agg #[.slice O R J,.slice L M Z]])∨(op=4/\f=118/\args=#[.agg #[.slice p n c,.slice I H A],.agg #[.slice O R J,.slice L M Z]])∨(op=5/\f=119/\args=#[.agg #[.slice p n c,.slice I H A],.int .i64 K])∨(op=6/\f=120/\args=#[.agg #[.slice p n c,.slice I H A],.agg #[.slice O R J,.slice L M Z]])∨(op=7/\f=121/\args=#[.agg #[.slice p n c,.slice I H A]])∨(op=8/\f=122/\args=#[.agg #[.slice p n c,.slice I H A],.int .i64 K])∨(op=11/\f=126/\args=#[.int .i64 K,.agg #[.slice p n c,.slice I H A]])∨(op=12/\f=127/\args=#[.agg #[.slice p n c,.slice I H A],.agg #[.slice O R J,.slice L M Z],.int .i64 K])) (cc:∀ W,Bw w W->Calls Tryz.prog f args W fun e w'=>∃ v',e = .returned (.tuple #[v',.int .i64 E])/\TRes w' W.heap.size v' D V/\Bw W w'):
  Calls Tryz.prog 93 #[.int .i64 op,.agg #[.slice p n c,.slice I H A],.agg #[.slice O R J,.slice L M Z],.int .i64 K] w fun e w'=>∃ v',e = .returned (.tuple #[v',.int .i64 E])/\TRes w' w.heap.size v' D V/\Bw w w':=by
 rcases h with ⟨rfl,rfl,rfl⟩|⟨rfl,rfl,rfl⟩|⟨rfl,rfl,rfl⟩|⟨rfl,rfl,rfl⟩|⟨rfl,rfl,rfl⟩|⟨rfl,rfl,rfl⟩|⟨rfl,rfl,rfl⟩|⟨rfl,rfl,rfl⟩|⟨rfl,rfl,rfl⟩
 all_goals
  go_enter Tryz.func93,Tryz.ntmps93;go_wp2_with fail
  generalize ab:alloc _ _=W0;obtain ⟨aa,XA,XB,XR⟩:=s_F ab;clear ab;refine (cc W0 aa).mono ?_;rintro e w1 ⟨v1,rfl,⟨s1,t1,rfl,hs,ht⟩,ac⟩;obtain ⟨pa,na,ca,rfl,_⟩:=hs.nums.lst;obtain ⟨pb,nb,cb,rfl,_⟩:=ht.nums.lst;clear cc;obtain ⟨HF,r0,r1,r2,r3,z0,z1⟩:=r_2 XR aa ac hs ht (by omega);clear hs ht;go_wp2;exact bodyPost_ret (v:=.tuple #[.agg #[.slice pa na ca,.slice pb nb cb],.int .i64 E]) (by simp [results,Tryz.results93,go_sem,z0,z1]) rfl ⟨_,rfl,HF.out⟩
theorem ck2:CkP 2:=by
 intro p p2 M p4 n c n2 c2 n3 O n4 c4 dd R d' J K hK I H E V w hT L h2 Z h4;exact n_l (.inl ⟨rfl,rfl,rfl⟩) fun W A=>o_R p p2 M p4 n c n2 c2 n3 O n4 c4 dd R d' J I.2.1 I.2.2 H E W (L.up A) (h2.up A) (Z.up A) (h4.up A)
theorem ck4:CkP 4:=by
 intro p p2 M p4 n c n2 c2 n3 O n4 c4 dd R d' J K hK I H E V w hT L h2 Z h4;exact n_l (.inr (.inr (.inl ⟨rfl,rfl,rfl⟩))) fun W A=>o_S p p2 M p4 n c n2 c2 n3 O n4 c4 dd R d' J I.2.1 I.2.2 H E W (L.up A) (h2.up A) (Z.up A) (h4.up A)
theorem ck8:CkP 8:=by
 intro p Z p3 p4 n c V R n3 c3 n4 c4 dd J d' y' K hK A ab aa L w hT E M h3 h4;exact n_l (.inr (.inr (.inr (.inr (.inr (.inr (.inl ⟨rfl,rfl,rfl⟩))))))) fun W H=>r_o p Z n c V R dd J K hK A.2.1 A.2.2 (by obtain ⟨_,_,_,I,HD⟩:=E.lst;cases I;have O:=A.1.1.1;rw [a_O,HD.1] at O;omega) W (E.up H) (M.up H)
theorem u_R:CkP 11:=by
 intro p V p3 p4 n c Z O n3 c3 n4 c4 dd I d' y' K hK A R L J w hT H M h3 h4;exact n_l (.inr (.inr (.inr (.inr (.inr (.inr (.inr (.inl ⟨rfl,rfl,rfl⟩)))))))) fun W E=>p_m K p V n c Z O dd I A.2.1 A.2.2 W (H.up E) (M.up E)
theorem u_S:CkP 12:=by
 intro p p2 M p4 n c n2 c2 n3 O n4 c4 dd R d' J K hK I H E V w hT L h2 Z h4;exact n_l (.inr (.inr (.inr (.inr (.inr (.inr (.inr (.inr (⟨rfl,rfl,rfl⟩))))))))) fun W A=>p_t p p2 M p4 n c n2 c2 n3 O n4 c4 dd R d' J K I.2.1 I.2.2 H E W (Hid.up_tz hT A) (L.up A) (h2.up A) (Z.up A) (h4.up A)
theorem u_T:CkP 13:=by
 intro p p2 p3 p4 n c n2 c2 n3 c3 n4 c4 dd yy d' y' K hK hg ae ad ac w hT h1 h2 h3 h4;have hd:=hg.2.1;have hx:=hg.2.2;obtain ⟨E,eE⟩:∃ E,rkE 13 dd yy d' y' K=E:=⟨_,rfl⟩
 obtain ⟨D,eD⟩:∃ D,rkD 13 dd yy d' y' K=D:=⟨_,rfl⟩
 obtain ⟨V,eV⟩:∃ V,rkV 13 dd yy d' y' K=V:=⟨_,rfl⟩
 rw [eE,eD,eV];obtain ⟨P,eP⟩:∃ P,plP dd yy K=P:=⟨_,rfl⟩
 have cc:∀ W,Bw w W->Calls Tryz.prog 128 #[.agg #[.slice p n c,.slice p2 n2 c2],.int .i64 K] W fun e w'=>∃ v' u',e = .returned (.tuple #[v',u',.int .i64 E])/\TRes w' W.heap.size v' D V/\OwnK .i64 3 w' W.heap.size u' P/\Bw W w':=fun W hW=>by
  rw [<- eE,<- eD,<- eV,<- eP];exact p_j p p2 n c n2 c2 dd yy K hd hx ac W (h1.up hW) (h2.up hW)
 clear eE eD eV eP h1 h2 h3 h4 hd hx ae ad hg hK ac hT;go_enter Tryz.func93,Tryz.ntmps93;go_wp2_with fail
 generalize ab:alloc _ _=W0;obtain ⟨R,XA,XB,XR⟩:=s_F ab;clear ab;refine (cc W0 R).mono ?_;rintro e w1 ⟨v1,u1,rfl,⟨s1,t1,rfl,Z,O⟩,hu,aa⟩;obtain ⟨J,H,L,rfl,_⟩:=Z.nums.lst;obtain ⟨I,M,A,rfl,_⟩:=O.nums.lst;obtain ⟨pu,nu,cu,rfl,_⟩:=hu.nums.lst;clear cc hu;have xr:=XR.out.up aa;have cf:=xr.set (.slice J H L) (.slice I M A)
 have HF:Hid (TRes ((set2 w1 (w.heap.size+2) (.slice J H L) (.slice I M A)).alloc (.cells #[.slice J H L,.slice I M A] 50)) w.heap.size (.agg #[.slice J H L,.slice I M A]) D V/\Bw w ((set2 w1 (w.heap.size+2) (.slice J H L) (.slice I M A)).alloc (.cells #[.slice J H L,.slice I M A] 50))):=
  ⟨((TRes.set Z O (a_b XR.1)).low R.size).up (a_a _ _),a_c (a_q (a_c R aa) _ (by omega) _ _) (a_a _ _)⟩
 obtain ⟨r0,r1,r2,r3⟩:=xr;have kq:=a_b r0;have z0:=a_d cf.1 (a_a _ (.cells #[.slice J H L,.slice I M A] 50));have z1:=a_d cf.2.1 (a_a _ (.cells #[.slice J H L,.slice I M A] 50));clear Z O aa cf;go_wp2;exact bodyPost_ret (v:=.tuple #[.agg #[.slice J H L,.slice I M A],.int .i64 E]) (by simp [results,Tryz.results93,go_sem,z0,z1]) rfl ⟨_,rfl,HF.out⟩
theorem u_U:CkP 14:=by
 intro p p2 p3 p4 n c I c2 n3 c3 n4 c4 dd H d' y' K hK hg ad ac ab w hT h1 h2 h3 h4;obtain ⟨_,_,_,e4,HX⟩:=h2.lst;cases e4;have hn:I<=4096:=by rw [<- HX.1];exact hg.1.len.2
 have L:RI [(I:Int)]:=fun q hq=>by simp at hq;omega
 have M:=HX.1;have hd:=hg.2.1;have hx:=hg.2.2;obtain ⟨E,eE⟩:∃ E,rkE 14 dd H d' y' K=E:=⟨_,rfl⟩
 obtain ⟨D,eD⟩:∃ D,rkD 14 dd H d' y' K=D:=⟨_,rfl⟩
 obtain ⟨V,eV⟩:∃ V,rkV 14 dd H d' y' K=V:=⟨_,rfl⟩
 rw [eE,eD,eV]
 have cc:Hid (∀ q W,Bw w W->Nums .i64 W (.slice q 1 1) [(I:Int)]->Calls Tryz.prog 129 #[.agg #[.slice p n c,.slice p2 I c2],.slice q 1 1] W fun e O=>∃ Z,e = .returned (.tuple #[Z,.int .i64 E])/\TRes O W.heap.size Z D V/\Bw W O):=fun q W hW hl=>by
  rw [<- eE,<- eD,<- eV];show Calls _ _ _ _ fun e O=>∃ Z,e = .returned (.tuple #[Z,.int .i64 (l_c dd H [(H.length:Int)])])/\TRes O W.heap.size Z (m_p dd H [(H.length:Int)]) (o_T dd H [(H.length:Int)])/\Bw W O;rw [M];exact i_c p p2 q n c I c2 1 1 dd H [(I:Int)] hd L W (h1.up hW) (h2.up hW) hl
 clear eE eD eV h1 h2 h3 h4 hd hx ad ac hg hK ab hn L M HX hT;go_enter Tryz.func93,Tryz.ntmps93;go_wp2_with fail
 generalize A:alloc _ _=W0;have B0:Bw w W0:=by rw [<- A];go_grown
 have XA:Hid (Cel W0 w.heap.size (.slice p n c) (.slice p2 I c2)):=e_W A (by simp [go_sem]);have XB:Hid (Cel W0 (w.heap.size+1) (.slice p3 n3 c3) (.slice p4 n4 c4)):=e_W A (by simp [go_sem]);have XR:Hid (Cel W0 (w.heap.size+2) (.slice none 0 0) (.slice none 0 0)):=e_W A (by simp [go_sem]);have R:Hid _:=B0
 have l5:Nums .i64 W0 (.slice (some ⟨w.heap.size+3,0,none⟩) 1 1) [(I:Int)]:=by
  refine .inr ⟨_,1,rfl,fun j u J=>?_⟩
  match j,J with
  | 0,J=>
   simp [a_N] at J;subst J;rw [a_r,<- A];simp [go_sem]
  | j+1,J=>simp [a_N] at J
 clear A B0;refine (cc.out _ W0 R l5).mono ?_;rintro e w1 ⟨v1,rfl,⟨s1,t1,rfl,hs,ht⟩,aa⟩;obtain ⟨pa,na,ca,rfl,_⟩:=hs.nums.lst;obtain ⟨pb,nb,cb,rfl,_⟩:=ht.nums.lst;clear cc l5;obtain ⟨HF,r0,r1,r2,r3,z0,z1⟩:=r_2 XR R aa hs ht (by omega);clear hs ht;go_wp2;exact bodyPost_ret (v:=.tuple #[.agg #[.slice pa na ca,.slice pb nb cb],.int .i64 E]) (by simp [results,Tryz.results93,go_sem,z0,z1]) rfl ⟨_,rfl,HF.out⟩
def rqE (op:Int) (D X D' X':List Int) (k:Int):Int:=if 2<=op/\op<=14 then rkE op D X D' X' k else 1
def rqD (op:Int) (D X D' X':List Int) (k:Int):List Int:=if 2<=op/\op<=14 then rkD op D X D' X' k else []
def rqV (op:Int) (D X D' X':List Int) (k:Int):List Int:=if 2<=op/\op<=14 then rkV op D X D' X' k else []
/-- What reckon does at an Op, the table's, and any. -/
def RkC (op:Int):Prop:=∀ (p p2 p3 p4:Option Addr) (n c n2 c2 n3 c3 n4 c4:Nat) (dd yy d' y':List Int) (K:Int) (hK:InR K) (hg:f_q dd yy) (hd':RI d') (hy':RI y') (hc2:n2<=c2) (w:World) (hT:Hid (Tz w)) (h1:Nums .i64 w (.slice p n c) dd) (h2:Nums .i64 w (.slice p2 n2 c2) yy) (h3:Nums .i64 w (.slice p3 n3 c3) d') (h4:Nums .i64 w (.slice p4 n4 c4) y'),
  Calls Tryz.prog 93 #[.int .i64 op,.agg #[.slice p n c,.slice p2 n2 c2],.agg #[.slice p3 n3 c3,.slice p4 n4 c4],.int .i64 K] w fun e w'=>∃ v',e = .returned (.tuple #[v',.int .i64 (rqE op dd yy d' y' K)])/\TRes w' w.heap.size v' (rqD op dd yy d' y' K) (rqV op dd yy d' y' K)/\Bw w w'
theorem RkC.of {op:Int} (h:2<=op/\op<=14) (hc:CkP op):RkC op:=by
 intro p p2 L p4 n c n2 c2 n3 O n4 Z dd R d' I K hK M H E A w hT J h2 V h4;have:=hc p p2 L p4 n c n2 c2 n3 O n4 Z dd R d' I K hK M H E A w hT J h2 V h4;unfold rqE rqD rqV;rw [if_pos h,if_pos h,if_pos h];exact this
theorem s_I (B tb:Nat) (ns:List Nd) (op:Int) (H:Nat) (b k:Int) (aN:Nd) (ar:ns[H]?=some aN) (aC aw:List Int) (BV KV:Int) (h2:(d_H op/\BV=b/\∃ (bi:Nat) (aG:Nd),b=(bi:Int)/\ns[bi]?=some aG/\aC=aG.D/\aw=aG.X)∨(¬ d_H op/\BV = -1/\aC = []/\aw = [])) (h3:(byP op/\KV=k)∨(¬ byP op/\KV=0)) (am:ns.length < 512) (E:Int) (D V:List Int) (RR:Int) (NS:List Nd) (HG:Hid ((E=0->RR=(ns.length:Int)/\NS=ns++[⟨op,(H:Int),BV,KV,D,V⟩])/\(E≠0->RR=0/\NS=ns))) (w:World) (hT:TapC w B tb ns)
  (HR:Hid (∀ (W:World) (pA qA R J:Option Addr) (nA cA mA eA O Z L M:Nat),Bw w W->Nums .i64 W (.slice pA nA cA) aN.D->Nums .i64 W (.slice qA mA eA) aN.X->mA<=eA->Nums .i64 W (.slice R O Z) aC->Nums .i64 W (.slice J L M) aw->Calls Tryz.prog 93 #[.int .i64 op,.agg #[.slice pA nA cA,.slice qA mA eA],.agg #[.slice R O Z,.slice J L M],.int .i64 k] W fun e w'=>∃ v',e = .returned (.tuple #[v',.int .i64 E])/\TRes w' W.heap.size v' D V/\Bw W w')):
  Calls Tryz.prog 64 #[.pointer (some ⟨tb,0,none⟩),.int .i64 op,.int .i64 (H:Int),.int .i64 b,.int .i64 k] w fun e w'=>e = .returned (.tuple #[.int .i64 RR,.int .i64 E])/\TapC w' B tb NS/\Below B w w'/\Only SC w w'/\Spar2 tb w w':=by
 have al:Hid _:=hT;obtain ⟨pL,cL,bj,hv,ho,aI,a5⟩:=Tap.head hT;obtain ⟨N,eN⟩:∃ N,ns.length=N:=⟨_,rfl⟩
 rw [eN] at hv ho a5;have au:=(a_P hv).1;have hz:=a_k hv;have aJ:Hid _:=Nat.le_trans al.1 (Nat.le_of_lt hz);have bc:H < N:=by rw [<- eN];exact (List.getElem?_eq_some_iff.1 ar).1
 obtain ⟨q,be,sA_,bn,eq,hx,_,_,_,_,aj,aD,aO,aA⟩:=b_x ho aI eN H bc;rw [ar] at hx;cases hx;obtain ⟨pA,nA,cA,rfl⟩:=aO.form_;obtain ⟨qA,mA,eA,rfl⟩:=aA.form_;have hf:decide (512<=ns.length)=false:=decide_eq_false (by omega);have ha:decide (0<=(H:Int)/\(H:Int) < (ns.length:Int))=true:=decide_eq_true (by omega);have a4:(H:Int) < (N:Int):=by omega
 have HL:Hid _:=am;haveI:Nonempty World:=⟨w⟩
 have aR:Hid (∀ (W:World) (R J:Option Addr) (O Z L M:Nat),Bw w W->Nums .i64 W (.slice R O Z) aC->Nums .i64 W (.slice J L M) aw->Calls Tryz.prog 93 #[.int .i64 op,.agg #[.slice pA nA cA,.slice qA mA eA],.agg #[.slice R O Z,.slice J L M],.int .i64 k] W fun e w'=>∃ v',e = .returned (.tuple #[v',.int .i64 E])/\TRes w' W.heap.size v' D V/\Bw W w'):=fun W R J O Z L M hW g1 g2=>HR.out W _ _ _ _ _ _ _ _ _ _ _ _ hW (aO.nums.up hW) (aA.nums.up hW) aA.cap g1 g2;clear aO aA ar HR am;have a0:Hid _:=h3;clear h3;rcases h2 with ⟨h2,eV,bi,aG,eb,ao,ed,ex⟩|⟨h2,eV,ed,ex⟩
 case' inl=>
  subst eV;have av:bi < N:=by rw [<- eN];exact (List.getElem?_eq_some_iff.1 ao).1
  obtain ⟨q',bg,sB_,bl,aY,hx,_,_,_,_,ad,ak,aS,aP⟩:=b_x ho aI eN bi av;rw [ao] at hx;cases hx;obtain ⟨R,O,Z,rfl⟩:=aS.form_;obtain ⟨J,L,M,rfl⟩:=aP.form_;rw [eq] at aY;cases aY;subst eq;have HC:Hid (∀ W,Bw w W->Calls Tryz.prog 93 #[.int .i64 op,.agg #[.slice pA nA cA,.slice qA mA eA],.agg #[.slice R O Z,.slice J L M],.int .i64 k] W fun e w'=>∃ v',e = .returned (.tuple #[v',.int .i64 E])/\TRes w' W.heap.size v' D V/\Bw W w'):=fun W hW=>aR.out W _ _ _ _ _ _ hW (by rw [ed];exact aS.nums.up hW) (by rw [ex];exact aP.nums.up hW);have hq:=decide_eq_true h2;have hb:decide (0<=BV/\BV < (ns.length:Int))=true:=decide_eq_true (by omega);have aU:Hid (BV=(bi:Int)/\bi < N/\w.cell? ⟨q,bi*6+4,none⟩=some (.slice R O Z)/\w.cell? ⟨q,bi*6+5,none⟩=some (.slice J L M)):=⟨eb,av,ad,ak⟩
  clear aS aP ao ad ak eb av ed ex
 case' inr=>
  subst eq;obtain ⟨R,O,Z,J,L,M,eY⟩:∃ (R:Option Addr) (O Z:Nat) (J:Option Addr) (L M:Nat),(Value.slice none 0 0 = .slice R O Z/\Value.slice none 0 0 = .slice J L M):=⟨_,_,_,_,_,_,rfl,rfl⟩
  have HC:Hid (∀ W,Bw w W->Calls Tryz.prog 93 #[.int .i64 op,.agg #[.slice pA nA cA,.slice qA mA eA],.agg #[.slice R O Z,.slice J L M],.int .i64 k] W fun e w'=>∃ v',e = .returned (.tuple #[v',.int .i64 E])/\TRes w' W.heap.size v' D V/\Bw W w'):=fun W hW=>aR.out W _ _ _ _ _ _ hW (by rw [ed,<- eY.1];exact .inl ⟨rfl,rfl⟩) (by rw [ex,<- eY.2];exact .inl ⟨rfl,rfl⟩);have hq:=decide_eq_false h2;have ay:Hid (BV = -1/\(Value.slice none 0 0 = .slice R O Z/\Value.slice none 0 0 = .slice J L M)):=⟨eV,eY⟩
  clear eY ed ex eV
 all_goals
  have bh:=a_b aj;have HW:Hid (w.cell? ⟨tb,0,none⟩=some (.slice (some ⟨q,0,none⟩) N cL)/\w.cell? ⟨q,H*6+4,none⟩=some (.slice pA nA cA)/\w.cell? ⟨q,H*6+5,none⟩=some (.slice qA mA eA)):=⟨au,aj,aD⟩
  clear hT hv ho aI a5 aj aD au eN h2 aR;go_enter Tryz.func64,Tryz.ntmps64;go_wp2_with fail
  refine (c_C B tb ns false hf w al.out).mono ?_;rintro e w9 ⟨rfl,A⟩;have ew:=A.symm;subst ew;clear A;go_wp2_with fail
  refine (d_1 B tb ns (H:Int) true ha w al.out).mono ?_;rintro e w9 ⟨rfl,A⟩;have ew:=A.symm;subst ew;clear A;go_wp2_with fail
  refine (g_j op _ hq w).mono ?_;rintro e w9 ⟨rfl,A⟩;have ew:=A.symm;subst ew;clear A;clear hf ha
 all_goals try
  have ba:=hb;clear ba;go_wp2_with fail
  refine (d_1 B tb ns BV true hb w al.out).mono ?_;rintro e w9 ⟨rfl,A⟩;have ew:=A.symm;subst ew;clear A;clear hb
 all_goals
  go_wp2_with fail
  generalize az:alloc _ _=W0;have aa:Hid (Bw w W0):=by show Below _ _ _;rw [<- az];go_grown
  have ag:W0.heap[w.heap.size]?=some (.cells #[.int .i64 op,.int .i64 (H:Int),.int .i64 (-1),.int .i64 0,.slice none 0 0,.slice none 0 0] 52 (0,0)):=by
   rw [<- az,heap_alloc_old _ _ (by rw [size_alloc];omega)];exact heap_alloc_new _ _
  have ae:W0.heap[w.heap.size+1]?=some (.cells #[.slice none 0 0,.slice none 0 0] 50 (0,0)):=by
   rw [<- az,<- size_alloc w (.cells #[.int .i64 op,.int .i64 (H:Int),.int .i64 (-1),.int .i64 0,.slice none 0 0,.slice none 0 0] 52)];exact heap_alloc_new _ _
  clear az;refine (g_j op _ hq W0).mono ?_;rintro e w9 ⟨rfl,A⟩;have ew:=A.symm;subst ew;clear A hq;have n1:tb≠w.heap.size:=by omega
  have n2:tb≠w.heap.size+1:=by omega
  have n3:q≠w.heap.size:=by omega
  have n4:q≠w.heap.size+1:=by omega
 all_goals first
  |obtain ⟨eb,av,ad,ak⟩:=aU.out
   subst eb;have b4:(bi:Int) < (N:Int):=by omega
   have ap:=a_d HW.1 aa;replace ad:=a_d ad aa;replace ak:=a_d ak aa;have s0:=a_b ap;have s3:=a_b ad;obtain ⟨⟨_,_,k2,_,_,_⟩,kf⟩:=g_i ag;obtain ⟨l0,l1,l2,l3⟩:=c_x ae;have s1:=a_k ag;have s2:=a_k ae;have bd:=kf 2;clear aU av;go_wp2_with fail
   go_region;go_wp2_with fail
   generalize aE:drew _=W1
   have af:W1.heap[w.heap.size]?=some (.cells #[.int .i64 op,.int .i64 (H:Int),.int .i64 (bi:Int),.int .i64 0,.slice none 0 0,.slice none 0 0] 52 (0,0)):=by
    rw [<- aE];show (setCell _ _ _).heap[w.heap.size]?=_;rw [a_1 _ _ _ _ _ (by omega),a_1 _ _ _ _ _ (by omega),a_l ag];rfl
   have aF:W1.heap[w.heap.size+1]?=some (.cells #[.slice R O Z,.slice J L M] 50 (0,0)):=by
    have h0:(W0.setCell ⟨w.heap.size,2,none⟩ (.int .i64 (bi:Int))).heap[w.heap.size+1]?=some (.cells #[.slice none 0 0,.slice none 0 0] 50 (0,0)):=by
     rw [a_1 _ _ _ _ _ (by omega)];exact ae
    rw [<- aE];show (setCell _ _ _).heap[w.heap.size+1]?=_;rw [a_l (a_l h0)];rfl
   have ax:Hid (Bw w W1):=by
    show Below _ _ _;rw [<- aE];exact (((aa.setCell (p:=⟨w.heap.size,2,none⟩) (Nat.le_refl _) _).setCell (p:=⟨w.heap.size+1,0,none⟩) (le_succ _) _).setCell (p:=⟨w.heap.size+1,1,none⟩) (le_succ _) _).trans ⟨rfl,rfl,rfl,Nat.le_refl _,fun _ _=>rfl⟩
   obtain ⟨BV,a9⟩:∃ z,(bi:Int)=z:=⟨_,rfl⟩
   rw [a9] at af HG;clear aE k2 kf bd l0 l1 l2 l3 s0 s1 s2 s3 ap ad ak ag ae aa
  |go_wp2_with fail
   obtain ⟨W1,aQ⟩:∃ W1:World,W1=W0:=⟨_,rfl⟩
   rw [<- aQ];rw [<- aQ] at ag ae aa;have af:W1.heap[w.heap.size]?=some (.cells #[.int .i64 op,.int .i64 (H:Int),.int .i64 BV,.int .i64 0,.slice none 0 0,.slice none 0 0] 52 (0,0)):=by rw [ay.1];exact ag
   have aF:W1.heap[w.heap.size+1]?=some (.cells #[.slice R O Z,.slice J L M] 50 (0,0)):=by
    rw [<- ay.2.1,<- ay.2.2];exact ae
   have ax:=aa;clear ag ae aa aQ ay
 all_goals
  rcases a0.out with ⟨h3,eK⟩|⟨h3,eK⟩
  case' inl=>
   subst eK;refine (i_w op true (decide_eq_true h3) W1).mono ?_;rintro e w9 ⟨rfl,A⟩;have ew:=A.symm;subst ew;clear A h3;obtain ⟨⟨_,_,_,k3,_,_⟩,kf⟩:=g_i af;have s1:=a_k af;go_wp2_with fail
   refine a_Q (fun W2 ac=>?_)
   have an:W2.heap[w.heap.size]?=some (.cells #[.int .i64 op,.int .i64 (H:Int),.int .i64 BV,.int .i64 KV,.slice none 0 0,.slice none 0 0] 52 (0,0)):=by
    rw [ac,a_l af];rfl
   have aB:W2.heap[w.heap.size+1]?=some (.cells #[.slice R O Z,.slice J L M] 50 (0,0)):=by
    rw [ac,a_1 _ _ _ _ _ (by omega)];exact aF
   have I:Hid (Bw w W2):=by
    show Below _ _ _;rw [ac];exact ax.setCell (p:=⟨w.heap.size,3,none⟩) (Nat.le_refl _) _
   clear k3 kf s1
  case' inr=>
   refine (i_w op false (decide_eq_false h3) W1).mono ?_;rintro e w9 ⟨rfl,A⟩;have ew:=A.symm;subst ew;clear A h3;go_wp2_with fail
   refine a_Q (fun W2 ac=>?_);have an:W2.heap[w.heap.size]?=some (.cells #[.int .i64 op,.int .i64 (H:Int),.int .i64 BV,.int .i64 KV,.slice none 0 0,.slice none 0 0] 52 (0,0)):=by rw [ac,eK];exact af
   have aB:W2.heap[w.heap.size+1]?=some (.cells #[.slice R O Z,.slice J L M] 50 (0,0)):=by rw [ac];exact aF
   have I:Hid (Bw w W2):=by show Below _ _ _;rw [ac];exact ax
   clear eK
  all_goals
   clear ac af aF ax a0;have ap:=a_d HW.1 I;have aj:=a_d HW.2.1 I;have aD:=a_d HW.2.2 I;obtain ⟨y0,y1,_,_⟩:=c_x aB;have s0:=a_b ap;have s1:=a_k an;have s2:=a_k aB;have s3:=a_b aj;refine q_G [⟨11,62,TupP W2.heap.size D V E⟩,⟨12,50,TupP W2.heap.size D V E⟩,⟨13,63,OwnT W2.heap.size D V⟩] 16 72 (by kernel_rfl) rfl rfl 14 _ rfl (by decide) rfl (by kernel_rfl) (by kernel_rfl) (fun _ _ _ _ h=>h) (by rfl) ?_ ?_
   ·exact upC (fun _ _ _=>TupP.up) (upC (fun _ _ _=>TupP.up) (upC (fun _ _ _=>OwnT.up) upN))
   apply Exists.intro;refine ⟨?_,?_,?_,?_⟩;rotate_left
   ·intro x;simp only [take_succ_cons,take_zero]
    iterate 11
     apply c_w;rfl;rfl
     ·intro F hF hf K hK hFc hFf
      go_big_quiet_op
      exact hK
     (try simp only [a_v])
    refine c_g rfl rfl ?_ ?_
    ·intro F hF hf d hFc hFf;simp [a_j,a_e,go_sem];refine (HC.out (F d) (a_c I (hF.below d))).mono ?_;rintro e' w8 ⟨v8,rfl,h8,bb⟩;exact ⟨_,rfl,⟨v8,rfl,(h8.low (hF.below d).size).own⟩,bb⟩
    (try simp only [a_v])
    refine c_g rfl rfl ?_ ?_
    ·intro F hF hf d hFc hFf;have h9:=hf _ mS (by rfl) d;simp [a_j,a_e,go_sem];exact ⟨h9,Below.refl _ _⟩
    (try simp only [a_v])
    refine c_g rfl rfl ?_ ?_
    ·intro F hF hf d hFc hFf;have h9:=hf _ (mC mS) (by rfl) d;obtain ⟨u9,e9,n9⟩:=h9;simp only [] at e9 n9;simp [a_j,a_e,go_sem,e9];exact ⟨n9,Below.refl _ _⟩
    (try simp only [a_v])
    apply c_w;rfl;rfl
    ·intro F hF hf K hK hFc hFf;have h9:=hf _ (mC mS) (by rfl);obtain ⟨u9,e9,_⟩:=h9 w;simp only [] at e9
     go_big_quiet_op
     exact hK
    (try simp only [a_v])
    apply c_w;rfl;rfl
    ·intro F hF hf K hK hFc hFf
     go_big_quiet_op
     exact hK
    (try simp only [a_v])
    refine b_A ?_;exact rfl
   ·intro x;simp only [b_q,foldl_cons,foldl_nil,a_v]
   rotate_left
   ·intro x hx;obtain ⟨W9,u9,e9,_⟩:=hx _ (mC mS) (by rfl);simp only [] at e9;refine ⟨.int .i64 E,fun t ht=>?_,.inl ⟨by rfl,fun w=>?_⟩⟩
    ·cases ht;rfl
    ·simp [execOp,Act.eval,e9,go_sem]
   intro w3 aH aL hf;simp only [drop_succ_cons,drop_zero];have a1:=hf _ (mC (mC mS));obtain ⟨bo,a7⟩:∃ z,aH 11=z:=⟨_,rfl⟩
   obtain ⟨bk,aX⟩:∃ z,aH 12=z:=⟨_,rfl⟩
   obtain ⟨bm,aT⟩:∃ z,aH 13=z:=⟨_,rfl⟩
   simp only [aT] at a1;simp only [a7,aX,aT];clear a7 aX aT hf ap aj aD y0 y1 s0 s1 s2 s3;obtain ⟨pa,na,ca,pb,nb,cb,rfl,aM,a2⟩:=a1;have aV:Hid _:=a_c I aL;have ah:w3.heap[w.heap.size]?=some (.cells #[.int .i64 op,.int .i64 (H:Int),.int .i64 BV,.int .i64 KV,.slice none 0 0,.slice none 0 0] 52 (0,0)):=by rw [aL.block _ (a_k an)];exact an
   obtain ⟨⟨_,_,_,_,k4,k5⟩,kf⟩:=g_i ah;have s1:=a_k ah
   have a3:Hid (((w3.setCell ⟨w.heap.size,4,none⟩ (.slice pa na ca)).setCell ⟨w.heap.size,5,none⟩ (.slice pb nb cb)).heap[w.heap.size]?=some (.cells #[.int .i64 op,.int .i64 (H:Int),.int .i64 BV,.int .i64 KV,.slice pa na ca,.slice pb nb cb] 52 (0,0))):=by
    show _=_;rw [a_l (a_l ah)];rfl
   have ab:Hid (Bw w ((w3.setCell ⟨w.heap.size,4,none⟩ (.slice pa na ca)).setCell ⟨w.heap.size,5,none⟩ (.slice pb nb cb))):=(aV.setCell (p:=⟨w.heap.size,4,none⟩) (Nat.le_refl _) _).setCell (p:=⟨w.heap.size,5,none⟩) (Nat.le_refl _) _;have o6:Only [52] w3 ((w3.setCell ⟨w.heap.size,4,none⟩ (.slice pa na ca)).setCell ⟨w.heap.size,5,none⟩ (.slice pb nb cb)):=(Only.set ah (by simp)).trans (Only.set (a_l ah) (by simp));have aq:=Nat.le_trans aJ I.size;have HO:Hid (OwnK .i64 3 ((w3.setCell ⟨w.heap.size,4,none⟩ (.slice pa na ca)).setCell ⟨w.heap.size,5,none⟩ (.slice pb nb cb)) B (.slice pa na ca) D/\OwnK .i64 48 ((w3.setCell ⟨w.heap.size,4,none⟩ (.slice pa na ca)).setCell ⟨w.heap.size,5,none⟩ (.slice pb nb cb)) B (.slice pb nb cb) V/\OwnK .i64 3 ((w3.setCell ⟨w.heap.size,4,none⟩ (.slice pa na ca)).setCell ⟨w.heap.size,5,none⟩ (.slice pb nb cb)) w.heap.size (.slice pa na ca) D):=⟨(aM.only o6 (by decide)).low aq,(a2.only o6 (by decide)).low aq,(aM.only o6 (by decide)).low I.size⟩
   clear HC an aB I aM a2 aL ah o6 aq aV;by_cases hE:E=0
   case neg=>
    have bp:(E != 0)=true:=by simpa using hE
    obtain ⟨g1,g2⟩:=HG.2 hE;subst g1 g2;clear HG hE HO a3;go_wp2;exact bodyPost_ret (v:=.tuple #[.int .i64 0,.int .i64 E]) (by simp [results,Tryz.results64,go_sem]) rfl ⟨rfl,al.out.up ab,ab.mono aJ,Only.of ab,Spar2.of ab⟩
   subst hE;obtain ⟨g1,g2⟩:=HG.1 rfl;subst g1 g2;clear HG;go_wp2_with fail
   refine (k_o B tb ns ⟨op,(H:Int),BV,KV,D,V⟩ pa pb na ca nb cb HL.out _ (al.out.up ab) HO.1 HO.2.1).mono ?_;rintro e w7 ⟨rfl,aW,a6,a8,aZ⟩;have HF:Hid (TapC w7 B tb (ns++[⟨op,(H:Int),BV,KV,D,V⟩])/\Below B w w7/\Only SC w w7/\Spar2 tb w w7):=⟨aW,i_x (ab.mono aJ) a6,(Only.of ab).trans a8,Spar2.kept ab aZ HO.2.2⟩
   clear aW a6 a8 aZ HO k4 k5 kf s1 a3;go_wp2;exact bodyPost_ret (v:=.tuple #[.int .i64 (ns.length:Int),.int .i64 0]) (by simp [results,Tryz.results64,go_sem]) rfl ⟨rfl,HF.out⟩
theorem u_V {op:Int} (h:¬ byP op) (D X D' X':List Int) (k:Int):rkE op D X D' X' k=rkE op D X D' X' 0/\rkD op D X D' X' k=rkD op D X D' X' 0/\rkV op D X D' X' k=rkV op D X D' X' 0:=by
 have J:op≠5:=fun e=>h (.inl e);have I:op≠8:=fun e=>h (.inr (.inl e));have H:op≠11:=fun e=>h (.inr (.inr (.inl e)));have E:op≠12:=fun e=>h (.inr (.inr (.inr (.inl e))));have A:op≠13:=fun e=>h (.inr (.inr (.inr (.inr e))));unfold rkE rkD rkV;simp only [if_neg J,if_neg I,if_neg H,if_neg E,if_neg A];exact ⟨trivial,trivial,trivial⟩
theorem p_u (B E:Nat) (ns:List Nd) (hG:NodesG ns) (op a b k:Int) (V:InR op/\InR a/\InR b/\InR k) (w:World) (O:TapC w B E ns) (A:512<=ns.length):
  Calls Tryz.prog 64 #[.pointer (some ⟨E,0,none⟩),.int .i64 op,.int .i64 a,.int .i64 b,.int .i64 k] w fun e J=>e = .returned (.tuple #[.int .i64 (doR ns op a b k),.int .i64 (doE ns op a b k)])/\TapC J B E (doN ns op a b k)/\Below B w J/\Only SC w J/\Spar2 E w J:=by
 have H:Hid (TapC w B E ns):=O;have hf:decide (512<=ns.length)=true:=decide_eq_true A;have M:doE ns op a b k=2:=if_pos A;have R:doR ns op a b k=0:=if_neg fun h=>by have:=h.1.1;omega
 have L:doN ns op a b k=ns:=if_neg fun h=>by have:=h.1.1;omega
 rw [M,R,L];clear M R L A O V;go_enter Tryz.func64,Tryz.ntmps64;go_wp2_with fail
 refine (c_C B E ns true hf w H.out).mono ?_;rintro e w9 ⟨rfl,I⟩;have Z:=I.symm;subst Z;clear I;clear hf;go_wp2;exact bodyPost_ret (v:=.tuple #[.int .i64 0,.int .i64 2]) (by simp [results,Tryz.results64,go_sem]) rfl ⟨rfl,H.out,Below.refl _ _,Only.refl _ _,Spar2.of (Below.refl _ _)⟩
theorem r_p (B L:Nat) (ns:List Nd) (hG:NodesG ns) (op a b k:Int) (hk:InR op/\InR a/\InR b/\InR k) (w:World) (hT:TapC w B L ns) (M:ns.length < 512) (H:¬ ((0<=a/\a < (ns.length:Int))/\(d_H op->0<=b/\b < (ns.length:Int)))):
  Calls Tryz.prog 64 #[.pointer (some ⟨L,0,none⟩),.int .i64 op,.int .i64 a,.int .i64 b,.int .i64 k] w fun e w'=>e = .returned (.tuple #[.int .i64 (doR ns op a b k),.int .i64 (doE ns op a b k)])/\TapC w' B L (doN ns op a b k)/\Below B w w'/\Only SC w w'/\Spar2 L w w':=by
 have E:Hid (TapC w B L ns):=hT;have hf:decide (512<=ns.length)=false:=decide_eq_false (by omega);have Z:¬ okD ns op a b:=fun h=>H h.2;have e1:doE ns op a b k=1:=(if_neg (by omega)).trans (if_neg Z);have e2:doR ns op a b k=0:=if_neg fun h=>Z h.1.2;have e3:doN ns op a b k=ns:=if_neg fun h=>Z h.1.2;rw [e1,e2,e3];clear e1 e2 e3 hT hk Z M;by_cases O:0<=a/\a < (ns.length:Int)
 ·have R:d_H op/\¬ (0<=b/\b < (ns.length:Int)):=by
   by_cases R:d_H op
   ·exact ⟨R,fun hb=>H ⟨O,fun _=>hb⟩⟩
   ·exact absurd ⟨O,fun h=>absurd h R⟩ H
  have hq:decide (d_H op)=true:=decide_eq_true R.1;have hb:decide (0<=b/\b < (ns.length:Int))=false:=decide_eq_false R.2;have J:decide (0<=a/\a < (ns.length:Int))=true:=decide_eq_true O;clear R O H;go_enter Tryz.func64,Tryz.ntmps64;go_wp2_with fail
  refine (c_C B L ns false hf w E.out).mono ?_;rintro e V ⟨rfl,A⟩;have I:=A.symm;subst I;clear A;go_wp2_with fail
  refine (d_1 B L ns a true J w E.out).mono ?_;rintro e V ⟨rfl,A⟩;have I:=A.symm;subst I;clear A;go_wp2_with fail
  refine (g_j op true hq w).mono ?_;rintro e V ⟨rfl,A⟩;have I:=A.symm;subst I;clear A;go_wp2_with fail
  refine (d_1 B L ns b false hb w E.out).mono ?_;rintro e V ⟨rfl,A⟩;have I:=A.symm;subst I;clear A;clear hf hq hb J;go_wp2;exact bodyPost_ret (v:=.tuple #[.int .i64 0,.int .i64 1]) (by simp [results,Tryz.results64,go_sem]) rfl ⟨rfl,E.out,Below.refl _ _,Only.refl _ _,Spar2.of (Below.refl _ _)⟩
 ·have J:decide (0<=a/\a < (ns.length:Int))=false:=decide_eq_false O;clear O H;go_enter Tryz.func64,Tryz.ntmps64;go_wp2_with fail
  refine (c_C B L ns false hf w E.out).mono ?_;rintro e V ⟨rfl,A⟩;have I:=A.symm;subst I;clear A;go_wp2_with fail
  refine (d_1 B L ns a false J w E.out).mono ?_;rintro e V ⟨rfl,A⟩;have I:=A.symm;subst I;clear A;clear hf J;go_wp2;exact bodyPost_ret (v:=.tuple #[.int .i64 0,.int .i64 1]) (by simp [results,Tryz.results64,go_sem]) rfl ⟨rfl,E.out,Below.refl _ _,Only.refl _ _,Spar2.of (Below.refl _ _)⟩
theorem s_J (B Z:Nat) (ns:List Nd) (hG:NodesG ns) (op a b k:Int) (ak:RkC op) (hk:InR op/\InR a/\InR b/\InR k) (w:World) (hT:TapC w B Z ns) (aj:Hid (Tz w)):
  Calls Tryz.prog 64 #[.pointer (some ⟨Z,0,none⟩),.int .i64 op,.int .i64 a,.int .i64 b,.int .i64 k] w fun e w'=>e = .returned (.tuple #[.int .i64 (doR ns op a b k),.int .i64 (doE ns op a b k)])/\TapC w' B Z (doN ns op a b k)/\Below B w w'/\Only SC w w'/\Spar2 Z w w':=by
 by_cases hf:512<=ns.length
 ·exact p_u B Z ns hG op a b k hk w hT hf
 by_cases I:(0<=a/\a < (ns.length:Int))/\(d_H op->0<=b/\b < (ns.length:Int))
 case neg=>exact r_p B Z ns hG op a b k hk w hT (by omega) I
 obtain ⟨M,rfl⟩:∃ i:Nat,a=i:=⟨a.toNat,by have:=I.1;omega⟩
 have ah:M < ns.length:=by have:=I.1;omega
 obtain ⟨A,L⟩:∃ nd,ns[M]?=some nd:=⟨_,getElem?_eq_getElem ah⟩
 have an:f_q A.D A.X:=hG A (i_v L);have ae:=l_n L;obtain ⟨E,eE⟩:∃ E,rqE op A.D A.X (dD ns op b) (dX ns op b) k=E:=⟨_,rfl⟩
 obtain ⟨D,eD⟩:∃ E,rqD op A.D A.X (dD ns op b) (dX ns op b) k=E:=⟨_,rfl⟩
 obtain ⟨V,eV⟩:∃ E,rqV op A.D A.X (dD ns op b) (dX ns op b) k=E:=⟨_,rfl⟩
 have ac:rkE op A.D A.X (dD ns op b) (dX ns op b) k=rkE op A.D A.X (dD ns op b) (dX ns op b) (dK op k)/\rkD op A.D A.X (dD ns op b) (dX ns op b) k=rkD op A.D A.X (dD ns op b) (dX ns op b) (dK op k)/\rkV op A.D A.X (dD ns op b) (dX ns op b) k=rkV op A.D A.X (dD ns op b) (dX ns op b) (dK op k):=by
  unfold dK;by_cases h:byP op
  ·rw [if_pos h];exact ⟨rfl,rfl,rfl⟩
  ·rw [if_neg h];exact u_V h _ _ _ _ _
 have ab:doE ns op (M:Int) b k=E:=by
  refine (if_neg (by omega)).trans ?_;rw [<- eE];unfold rqE;by_cases J:2<=op/\op<=14
  ·rw [if_pos J,if_pos ⟨J,I⟩];unfold dE;rw [ae,ac.1]
  ·rw [if_neg J,if_neg fun h=>J h.1]
 have ad:E=0->2<=op/\op<=14:=fun h=>by
  by_cases J:2<=op/\op<=14
  ·exact J
  ·rw [<- eE] at h;unfold rqE at h;rw [if_neg J] at h;cases h
 rw [ab];obtain ⟨RR,eR⟩:∃ R,doR ns op (M:Int) b k=R:=⟨_,rfl⟩
 obtain ⟨NS,eS⟩:∃ R,doN ns op (M:Int) b k=R:=⟨_,rfl⟩
 rw [eR,eS]
 have al:(E=0->RR=(ns.length:Int)/\NS=ns++[⟨op,(M:Int),dB op b,dK op k,D,V⟩])/\(E≠0->RR=0/\NS=ns):=by
  rw [<- eR,<- eS];refine ⟨fun h=>?_,fun h=>?_⟩
  ·have J:=ad h;have hP:doP ns op (M:Int) b k:=⟨⟨by omega,J,I⟩,by rw [<- ab] at h;unfold doE at h;rw [if_neg hf,if_pos ⟨J,I⟩] at h;exact h⟩
   refine ⟨if_pos hP,(if_pos hP).trans ?_⟩;unfold dN;rw [ae,<- ac.2.1,<- ac.2.2,<- eD,<- eV];unfold rqD rqV;rw [if_pos J,if_pos J]
  ·have hP:¬ doP ns op (M:Int) b k:=fun h'=>h (by
    have H:=ab;unfold doE at H;rw [if_neg hf,if_pos h'.1.2] at H;rw [<- H];exact h'.2)
   exact ⟨if_neg hP,if_neg hP⟩
 have aa:ns.length < 512:=by omega
 have af:RI (dD ns op b)/\RI (dX ns op b):=by
  unfold dD dX;by_cases H:d_H op
  ·rw [if_pos H,if_pos H];exact (hG.at (I.2 H).1 (I.2 H).2).2
  ·rw [if_neg H,if_neg H];exact ⟨fun y hy=>by simp at hy,fun y hy=>by simp at hy⟩
 refine s_I B Z ns op M b k A L (dD ns op b) (dX ns op b) (dB op b) (dK op k) ?_ ?_ aa E D V RR NS al w hT ?_
 ·by_cases H:d_H op
  ·have hb:=I.2 H;obtain ⟨bi,rfl⟩:∃ i:Nat,b=i:=⟨b.toNat,by omega⟩
   obtain ⟨am,O⟩:∃ nd,ns[bi]?=some nd:=⟨_,getElem?_eq_getElem (by omega)⟩
   have ag:=l_n O;exact .inl ⟨H,if_pos H,bi,am,rfl,O,(if_pos H).trans (by rw [ag]),(if_pos H).trans (by rw [ag])⟩
  ·exact .inr ⟨H,if_neg H,if_neg H,if_neg H⟩
 ·by_cases h3:byP op
  ·exact .inl ⟨h3,if_pos h3⟩
  ·exact .inr ⟨h3,if_neg h3⟩
 intro W pA qA pB qB nA cA mA eA nB cB mB eB hW g1 g2 g3 g4 g5;rw [<- eE,<- eD,<- eV];exact ak pA qA pB qB nA cA mA eA nB cB mB eB _ _ _ _ k hk.2.2.2 an af.1 af.2 g3 W (Hid.up_tz aj hW) g1 g2 g4 g5
theorem h_y (B I:Nat) (ns:List Nd) (w:World) (L:TapC w B I ns):Calls Tryz.prog 15 #[.pointer (some ⟨I,0,none⟩)] w fun e Z=>e = .returned (.int .i64 (ns.length:Int))/\Z=w:=by
 have J:Hid (TapC w B I ns):=L;obtain ⟨pL,cL,V,E,R,O,A⟩:=Tap.head L;obtain ⟨N,H⟩:∃ N,ns.length=N:=⟨_,rfl⟩
 rw [H] at E R A;have M:=(a_P E).1;have hz:=a_k E;rw [H];clear L J E R O A H;go_enter Tryz.func15,Tryz.ntmps15;go_wp2;go_ret;exact ⟨rfl,rfl⟩
/-- What one step makes of the nodes: an error, its number, the nodes. -/
def stE (f:Int) (ns:List Nd) (st:Sp):Int:=if st.op=1 then e_T ns st.D st.X else doE ns st.op (f+st.a) (f+st.b) st.k
def stR (f:Int) (ns:List Nd) (st:Sp):Int:=if st.op=1 then f_f ns st.D st.X else doR ns st.op (f+st.a) (f+st.b) st.k
def stN (f:Int) (ns:List Nd) (st:Sp):List Nd:=if st.op=1 then e_o ns st.D st.X else doN ns st.op (f+st.a) (f+st.b) st.k
/-- A step that a plan may hold. -/
structure SpOk (st:Sp):Prop where
 ra:0<=st.a/\st.a<=1000
 rb:0<=st.b/\st.b<=1000
 rk:0<=st.k/\st.k<=1000
 rop:1<=st.op/\st.op<=14
 rD:RI st.D
 rX:RI st.X
theorem r_q (B H:Nat) (ns:List Nd) (hG:NodesG ns) (st:Sp) (ag:SpOk st) (aa:st.op≠1->RkC st.op) (f:Int) (hf:0<=f/\f<=1000) (p:Option Addr) (n c:Nat) (p2:Option Addr) (n2 c2:Nat) (w:World) (hT:TapC w B H ns) (af:Hid (Tz w)) (h1:Nums .i64 w (.slice p n c) st.D) (h2:Nums .i64 w (.slice p2 n2 c2) st.X):
  Calls Tryz.prog 41 #[.pointer (some ⟨H,0,none⟩),.agg #[.int .i64 st.op,.int .i64 st.a,.int .i64 st.b,.int .i64 st.k,.slice p n c,.slice p2 n2 c2,.bool st.par],.int .i64 f] w fun e I=>e = .returned (.tuple #[.int .i64 (stR f ns st),.int .i64 (stE f ns st)])/\TapC I B H (stN f ns st)/\Below B w I/\Only SC w I/\Spar2 H w I:=by
 obtain ⟨op,a,b,k,D,X,ab⟩:=st;obtain ⟨ra,rb,rk,ad,rD,rX⟩:=ag;simp only [] at ra rb rk ad rD rX h1 h2 aa ⊢;obtain ⟨R,eR⟩:∃ R,stR f ns ⟨op,a,b,k,D,X,ab⟩=R:=⟨_,rfl⟩
 obtain ⟨E,eE⟩:∃ R,stE f ns ⟨op,a,b,k,D,X,ab⟩=R:=⟨_,rfl⟩
 obtain ⟨NS,eN⟩:∃ R,stN f ns ⟨op,a,b,k,D,X,ab⟩=R:=⟨_,rfl⟩
 rw [eR,eE,eN]
 have ac:B<=w.heap.size:=by
  obtain ⟨hb,v,xs,hv,_⟩:=hT;exact Nat.le_trans hb (Nat.le_of_lt (a_k hv))
 have HZ:Hid _:=ac;by_cases h0:op=1
 ·subst h0
  have cl:Hid (∀ W,Bw w W->Calls Tryz.prog 63 #[.pointer (some ⟨H,0,none⟩),.agg #[.slice p n c,.slice p2 n2 c2]] W fun e I=>e = .returned (.tuple #[.int .i64 R,.int .i64 E])/\TapC I B H NS/\Below B W I/\Only SC W I/\Spar2 H W I):=fun W hW=>by
   have:=p_p B H ns hG p p2 n c n2 c2 D X rD rX W (hT.up hW) (h1.up hW) (h2.up hW);rw [<- eR,<- eE,<- eN];exact this
  clear eR eE eN hT h1 h2 aa rD rX ac;go_enter Tryz.func41,Tryz.ntmps41;go_wp2_with fail
  generalize L:alloc _ _=W0;have A:Hid (Bw w W0):=by rw [<- L];exact a_a w _
  clear L;refine (cl.out W0 A).mono ?_;rintro e Z ⟨rfl,J,O,M,V⟩;have HF:Hid (TapC Z B H NS/\Below B w Z/\Only SC w Z/\Spar2 H w Z):=⟨J,(A.mono HZ.out).trans O,(Only.of A).trans M,Spar2.trans (Spar2.of A) V A.size⟩
  clear J O M V cl;go_wp2;go_ret2;exact ⟨rfl,HF.out⟩
 ·have ak:(op==1)=false:=by simpa using h0
  obtain ⟨fa,ah⟩:∃ x,f+a=x:=⟨_,rfl⟩
  obtain ⟨fb,ae⟩:∃ x,f+b=x:=⟨_,rfl⟩
  have cd:Hid (∀ W,Bw w W->Calls Tryz.prog 64 #[.pointer (some ⟨H,0,none⟩),.int .i64 op,.int .i64 fa,.int .i64 fb,.int .i64 k] W fun e I=>e = .returned (.tuple #[.int .i64 R,.int .i64 E])/\TapC I B H NS/\Below B W I/\Only SC W I/\Spar2 H W I):=fun W hW=>by
   have:=s_J B H ns hG op fa fb k (aa h0) (by unfold InR;omega) W (hT.up hW) (Hid.up_tz af hW);rw [<- eR,<- eE,<- eN];unfold stR stE stN;simp only [if_neg h0];rw [ah,ae];exact this
  have aj:0<=fa/\fa<=2000:=by omega
  have ai:0<=fb/\fb<=2000:=by omega
  clear eR eE eN hT h1 h2 aa rD rX ac;go_enter Tryz.func41,Tryz.ntmps41;go_wp2_with fail
  generalize L:alloc _ _=W0;have A:Hid (Bw w W0):=by rw [<- L];exact a_a w _
  clear L;refine (cd.out W0 A).mono ?_;rintro e Z ⟨rfl,J,O,M,V⟩;have HF:Hid (TapC Z B H NS/\Below B w Z/\Only SC w Z/\Spar2 H w Z):=⟨J,(A.mono HZ.out).trans O,(Only.of A).trans M,Spar2.trans (Spar2.of A) V A.size⟩
  clear J O M V cd;go_wp2;go_ret2;exact ⟨rfl,HF.out⟩
end Go.Proofs.YtkfpainpomobfaaGreatDoor.Wd
