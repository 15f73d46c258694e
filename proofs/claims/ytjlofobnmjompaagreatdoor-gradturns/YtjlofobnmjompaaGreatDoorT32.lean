/- The code's Run. · Gradients of examples: what Run leaves may be swept back; which nodes are the parameters' own, and that they hold them all. · Gradients of examples: a loss by its kind, and what Of, Sum, Join tell. · A struct of two slices of integers that came in by value (a tensor): what a walk is told of it. Nothing of the program is named here. · A slice of calls that came in (structs of four integers and a tensor): what a walk is told of it. Nothing of the program is named here. · A net that came in by value (a slice of integers and a slice of structs of a string and two integers): what  -/
import Derived.Test.YtjlofobnmjompaaGreatDoorT31
import Derived.Test.YtjlofobnmjompaaGreatDoorT22
import Derived.Test.YtjlofobnmjompaaGreatDoorT00
import Derived.Lib.SmallJoins
import Derived.Deep.Slices
import Derived.ChangeSame
import Derived.Test.YtjlofobnmjompaaGreatDoorT23
import Derived.Test.YtjlofobnmjompaaGreatDoorT25
set_option linter.unusedVariables false
set_option linter.unusedSimpArgs false
set_option maxHeartbeats 16000000
set_option maxRecDepth 16000
namespace Go.Proofs.YtjlofobnmjompaaGreatDoor.Wd
open Go.RowKit Fx
theorem i_1 {sts:List Sp} {i:Nat} (h:i < sts.length):spA sts i∈sts:=by
 unfold spA;rw [List.getD_eq_getElem?_getD,List.getElem?_eq_getElem h];exact List.getElem_mem h
theorem RI.nil:RI []:=fun y h=>by simp at h
theorem RI.takes {l:List Int} (h:RI l) (n:Nat):RI (l.take n):=fun y D=>h y (List.mem_of_mem_take D)
theorem RI.drops {l:List Int} (h:RI l) (n:Nat):RI (l.drop n):=fun y D=>h y (List.mem_of_mem_drop D)
theorem m_W {op a b k:Int} (H:1<=op/\op<=14) (I:0<=a/\a<=1000) (hb:0<=b/\b<=1000) (D:0<=k/\k<=1000):SpOk (spD op a b k):=⟨I,hb,D,H,RI.nil,RI.nil⟩
theorem p_n {D X:List Int} {q:Bool} (H:RI D) (I:RI X):SpOk ⟨1,0,0,0,D,X,q⟩:=⟨show (0:Int)<=0/\(0:Int)<=1000 by omega,show (0:Int)<=0/\(0:Int)<=1000 by omega,show (0:Int)<=0/\(0:Int)<=1000 by omega,show (1:Int)<=1/\(1:Int)<=14 by omega,H,I⟩
theorem s_b {l:Ly} {d:List Int} (M:a_R l) (J:InOk d):∀ j,RI (shA (c_t l d) j):=fun j=>by
 have O:=J.prod;have L:0<=d.getD 0 0/\d.getD 0 0<=1024:=by rcases J with ⟨x,rfl,h⟩|⟨x,y,rfl,R,D⟩ <;> simp <;> omega
 unfold c_t;rcases a_K M with ⟨-,k,I,H⟩|⟨-,k,I,H⟩|⟨-,k,I,H⟩|⟨-,k,I,H⟩|⟨-,k,I,H⟩ <;> rw [k]
 ·match j with
  | 0=>intro y D;simp [shA] at D;omega
  | 1=>intro y D;simp [shA] at D;omega
  | j+2=>intro y D;simp [shA] at D
 ·match j with
  | 0=>intro y D;simp [shA] at D;simp at L;omega
  | j+1=>intro y D;simp [shA] at D
 all_goals intro y D;simp [shA] at D
theorem p_o {PP:List (List Int)} {rest:List Int} (H:∀ j,RI (shA PP j)) (D:RI rest):∀ j,(∀ st,st∈(prS PP rest j).1->SpOk st)/\RI (prS PP rest j).2
 | 0=>⟨fun st h=>by simp [prS] at h,D⟩
 | j+1=>by
  obtain ⟨J,I⟩:=p_o H D j;refine ⟨fun st h=>?_,I.drops _⟩;simp only [prS,List.mem_append,List.mem_cons,List.not_mem_nil,or_false] at h;rcases h with h|rfl
  ·exact J st h
  ·exact p_n (H j) (I.takes _)
theorem q_R {l:Ly} {d:List Int} (L:a_R l) (R:InOk d) {N:Nat} (hN:N<=200) {rest:List Int} (U:RI rest) {J D:Int} (hb:0<=J/\J<=300) (V:0<=D/\D<=300):(∀ st,st∈f_O l d N rest J D->SpOk st)/\RI (h_7 l d rest)/\k_T l d N<=N+5:=by
 obtain ⟨M,O⟩:=p_o (s_b L R) U (c_t l d).length;refine ⟨fun st h=>?_,O,?_⟩
 ·unfold f_O at h;rw [List.mem_append] at h;rcases h with h|h
  ·exact M st h
  ·rcases a_K L with ⟨-,k,I,H⟩|⟨-,k,I,H⟩|⟨-,k,I,H⟩|⟨-,k,I,H⟩|⟨-,k,I,H⟩ <;> rw [k] at h
   ·simp only [if_true] at h;unfold n_k at h
    split at h <;> simp only [List.mem_cons,List.not_mem_nil,or_false] at h
    ·rcases h with rfl|rfl|rfl|rfl <;> refine m_W ?_ ?_ ?_ ?_ <;> omega
    ·rcases h with rfl|rfl|rfl <;> refine m_W ?_ ?_ ?_ ?_ <;> omega
   all_goals
    simp at h;subst h;refine m_W ?_ ?_ ?_ ?_ <;> omega
 ·unfold k_T r_a
  split
  ·split <;> omega
  ·split <;> omega
theorem m_X {d:List Int} {ls:List Ly} {S:List (List Int)} {P X:List Int} (D:NetOk d ls S) (H:ls.length<=16) (L:RI d) (M:RI P) (I:RI X):∀ i,i<=ls.length->(∀ st,st∈(plF d ls S P X i).1->SpOk st)/\RI (plF d ls S P X i).2.1/\(0<=(plF d ls S P X i).2.2.1/\(plF d ls S P X i).2.2.1<=300)/\0<=(plF d ls S P X i).2.2.2/\(plF d ls S P X i).2.2.2<=300
 | 0,_=>by
  refine ⟨fun st h=>?_,M,by simp [plF],by simp [plF],by simp [plF]⟩;simp only [plF,List.mem_cons,List.not_mem_nil,or_false] at h;subst h;exact p_n L I
 | i+1,hi=>by
  obtain ⟨O,R,U,J⟩:=m_X D H L M I i (by omega);have hN:=h_a d ls S P X i;obtain ⟨V,g2,g3⟩:=q_R (D.lay i (by omega)) (D.inn i (by omega)) (N:=(plF d ls S P X i).1.length) (by omega) R U J;refine ⟨fun st h=>?_,g2,J,?_,?_⟩
  ·simp only [plF,List.mem_append] at h;rcases h with h|h
   ·exact O st h
   ·exact V st h
  ·simp only [plF];omega
  ·simp only [plF];omega
/-- What Run makes: an error, the nodes, the last one, the parameters' nodes. -/
def rnF (d:List Int) (ls:List Ly) (ns:List Nd) (P X:List Int):Int×List Nd×Int×List Int:=
 if nE d ls=0 then
  if (P.length:Int)=b_4 ls (nS d ls) ls.length/\(X.length:Int)=a_t d then
   if ns.length+(plF d ls (nS d ls) P X ls.length).1.length<=512 then
    ((pyF ns.length (plF d ls (nS d ls) P X ls.length).1 ns (plF d ls (nS d ls) P X ls.length).1.length).1,(pyF ns.length (plF d ls (nS d ls) P X ls.length).1 ns (plF d ls (nS d ls) P X ls.length).1.length).2.1,(if (pyF ns.length (plF d ls (nS d ls) P X ls.length).1 ns (plF d ls (nS d ls) P X ls.length).1.length).1=0 then (pyF ns.length (plF d ls (nS d ls) P X ls.length).1 ns (plF d ls (nS d ls) P X ls.length).1.length).2.2.1 else 0),(if (pyF ns.length (plF d ls (nS d ls) P X ls.length).1 ns (plF d ls (nS d ls) P X ls.length).1.length).1=0 then (pyF ns.length (plF d ls (nS d ls) P X ls.length).1 ns (plF d ls (nS d ls) P X ls.length).1.length).2.2.2 else []))
   else (2,ns,0,[])
  else (1,ns,0,[])
 else (nE d ls,ns,0,[])
theorem TapC.rn {B I D:Nat} {W W':World} {ns:List Nd} (h:TapC W B D ns) (H:Rn I W W'):TapC W' B D ns:=Tap.only h H.onl (by decide) (by decide) (by decide) (by decide)
theorem InOk.ri {d:List Int} (h:InOk d):RI d:=by
 rcases h with ⟨x,rfl,h⟩|⟨x,y,rfl,I,H⟩ <;> intro z D <;> simp at D <;> omega
theorem q_S (B tb:Nat) (ns:List Nd) (hG:NodesG ns) (aV:ns.length<=512) (d:List Int) (ls:List Ly) (P X:List Int) (hP:RI P) (hX:RI X) (aI:nE d ls=0->∀ st,st∈(plF d ls (nS d ls) P X ls.length).1->st.op≠1->RkC st.op) (p p2 pp px:Option Addr) (n c n2 c2 np cp nx cx:Nat) (am:n2<=1073741823) (aK:P.length<=1073741824) (w:World) (hT:TapC w B tb ns) (a4:Hid (∀ W,Below B w W->Tz W)) (aW:Hid (Kz w)) (az:Kept B w (.slice p n c) d) (aC:∀ W',Rn B w W'->LyR 0 W' p2 n2 ls) (hp:Kept B w (.slice pp np cp) P) (aY:np<=cp) (hx:Kept B w (.slice px nx cx) X):
  Calls Tryz.prog 22 #[.pointer (some ⟨tb,0,none⟩),.agg #[.slice p n c,.slice p2 n2 c2],.slice pp np cp,.slice px nx cx] w fun e w'=>∃ v,e = .returned (.tuple #[.int .i64 (rnF d ls ns P X).2.2.1,v,.int .i64 (rnF d ls ns P X).1])/\OwnK .i64 3 w' w.heap.size v (rnF d ls ns P X).2.2.2/\TapC w' B tb (rnF d ls ns P X).2.1/\Below B w w':=by
 haveI:Nonempty World:=⟨w⟩
 have aL:B<=w.heap.size:=by
  obtain ⟨hb,_,_,hv,_⟩:=hT;exact Nat.le_trans hb (Nat.le_of_lt (a_i hv))
 obtain ⟨I,aD⟩:∃ R,rnF d ls ns P X=R:=⟨_,rfl⟩
 obtain ⟨E,eE⟩:∃ E,nE d ls=E:=⟨_,rfl⟩
 obtain ⟨M,eS⟩:∃ S,nS d ls=S:=⟨_,rfl⟩
 obtain ⟨sl,aB⟩:∃ sl,M.length=sl:=⟨_,rfl⟩
 have aQ:P.length=np:=by
  obtain ⟨_,_,_,e,h⟩:=hp.nums.lst;cases e;exact h.out.1
 have aN:X.length=nx:=by
  obtain ⟨_,_,_,e,h⟩:=hx.nums.lst;cases e;exact h.out.1
 have H:Hid (rnF d ls ns P X=I/\nE d ls=E/\nS d ls=M/\M.length=sl/\P.length=np/\X.length=nx):=⟨aD,eE,eS,aB,aQ,aN⟩
 have cS:Hid (∀ W,Below w.heap.size w W->Calls Tryz.prog 36 #[.agg #[.slice p n c,.slice p2 n2 c2]] W fun e w'=>∃ ps cs,e = .returned (.tuple #[.slice ps sl cs,.int .i64 E])/\OwnS w' W.heap.size (.slice ps sl cs) M/\Below W.heap.size W w'):=fun W hW=>by
  have:=g_q p p2 n c n2 c2 d ls am W (Hid.up_kz aW hW) (az.nums.up hW) ((aC w (Rn.refl _ _)).up hW);rw [eE,eS,aB] at this;exact this
 have J:Hid (B<=w.heap.size/\TapC w B tb ns/\NodesG ns/\ns.length<=512/\Kept B w (.slice p n c) d/\(∀ W',Rn B w W'->LyR 0 W' p2 n2 ls)/\Kept B w (.slice pp np cp) P/\np<=cp/\Kept B w (.slice px nx cx) X/\P.length<=1073741824/\RI P/\RI X/\n2<=1073741823):=⟨aL,hT,hG,aV,az,aC,hp,aY,hx,aK,hP,hX,am⟩
 have aM:Hid (E=0->∀ st,st∈(plF d ls M P X ls.length).1->st.op≠1->RkC st.op):=by
  show _->_;rw [<- eE,<- eS];exact aI
 rw [aD];clear aD eE eS aB aQ aN az aC hp aY hx aK hP hX hT hG aV aI aW aL am;go_enter Tryz.func22,Tryz.ntmps22;go_wp2_with fail
 generalize aw:World.alloc _ _=W0;have aJ:Hid (Below w.heap.size w W0):=by rw [<- aw];exact a_b w _
 obtain ⟨g0,g1⟩:W0.cell? ⟨w.heap.size,0,none⟩=some (.slice p n c)/\W0.cell? ⟨w.heap.size,1,none⟩=some (.slice p2 n2 c2):=by rw [<- aw];simp [go_sem]
 clear aw;refine (cS.out W0 aJ.out).mono ?_;rintro e w1 ⟨ps,cs,rfl,aq,aj⟩;have ao:Hid (Below w.heap.size w w1):=a_c aJ.out aj;replace g0:=a_h aj g0;replace g1:=a_h aj g1;by_cases h0:E=0
 case neg=>
  have a5:(E != 0)=true:=by simpa using h0
  have V:Hid (∃ v,Ending.returned (.tuple #[.int .i64 0,.slice none 0 0,.int .i64 E]) = .returned (.tuple #[.int .i64 I.2.2.1,v,.int .i64 I.1])/\OwnK .i64 3 w1 w.heap.size v I.2.2.2/\TapC w1 B tb I.2.1/\Below B w w1):=by
   have h5:I=(E,ns,0,[]):=by
    rw [<- H.out.1];unfold rnF;rw [H.out.2.1,if_neg h0]
   show ∃ _,_;rw [h5];exact ⟨_,rfl,OwnK.nil _ _ _ _,J.out.2.1.up ao.out,ao.out.mono J.out.1⟩
  clear aq aj cS H;go_wp2;exact bodyPost_ret (v:=.tuple #[.int .i64 0,.slice none 0 0,.int .i64 E]) (by simp [results,Tryz.results22,go_sem]) rfl V.out
 subst h0;obtain ⟨S,hf,hs,ht⟩:=e_Z H.out.2.1;obtain ⟨_,h4,h5⟩:=k_N hf hs ht;rw [H.out.2.2.1] at h4;subst h4;obtain ⟨p',c',e',aO⟩:=aq.rd;cases e';have L:Hid (NetOk d ls M/\InOk d/\ls.length<=16):=⟨NetOk.of hf hs,((c_f d ls).1 hf).1,by unfold e_O at ht;simp at ht;omega⟩
 have cc:=c_g p p2 ps n c n2 c2 _ cs d ls M L.out.1 (by have:=J.out.2.2.2.2.2.2.2.2.2.2.2.2;omega) w1 ((J.out.2.2.2.2.2.1 w (Rn.refl _ _)).up ao.out) aO;obtain ⟨ct,ay⟩:∃ ct,b_4 ls M ls.length=ct:=⟨_,rfl⟩
 rw [ay] at cc;have aZ:Hid (OwnS w1 W0.heap.size (.slice ps M.length cs) M):=aq;clear aq aj hf hs ht h5 aO cS;go_wp2_with fail
 refine cc.mono ?_;rintro e w2 ⟨rfl,ag⟩;have af:Hid (Below w.heap.size w w2):=a_c ao.out ag;have av:Hid (OwnS w2 0 (.slice ps M.length cs) M):=(aZ.out.up ag).low (Nat.zero_le _);replace g0:=a_h ag g0;replace g1:=a_h ag g1;have ah:Hid (b_4 ls M ls.length=ct):=ay;have kg:=a_f g0;clear ag cc aZ ay
 have ak:Hid (¬ ((P.length:Int)=ct/\(X.length:Int)=a_t d)->∀ W,Below w.heap.size w W->∃ v,Ending.returned (.tuple #[.int .i64 0,.slice none 0 0,.int .i64 1]) = .returned (.tuple #[.int .i64 I.2.2.1,v,.int .i64 I.1])/\OwnK .i64 3 W w.heap.size v I.2.2.2/\TapC W B tb I.2.1/\Below B w W):=fun a1 W hW=>by
  have h5:I=(1,ns,0,[]):=by
   rw [<- H.out.1];unfold rnF;rw [H.out.2.1,H.out.2.2.1,ah.out,if_pos rfl,if_neg a1]
  rw [h5];exact ⟨_,rfl,OwnK.nil _ _ _ _,J.out.2.1.up hW,hW.mono J.out.1⟩
 by_cases ad:(np:Int)=ct
 case neg=>
  have aR:((np:Int) != ct)=true:=by simpa using ad
  have V:Hid _:=ak.out (fun h=>ad (by rw [<- H.out.2.2.2.2.1];exact h.1)) w2 af.out;clear ak ad;go_wp2;exact bodyPost_ret (v:=.tuple #[.int .i64 0,.slice none 0 0,.int .i64 1]) (by simp [results,Tryz.results22,go_sem]) rfl V.out
 have aR:((np:Int) != ct)=false:=by simpa using ad
 have cz:=d_j (.slice p n c) d L.out.2.1.smal w2 (J.out.2.2.2.2.1.nums.up af.out);obtain ⟨pd,aA⟩:∃ x,a_t d=x:=⟨_,rfl⟩
 rw [aA] at cz;have U:Hid (a_t d=pd/\(np:Int)=ct):=⟨aA,ad⟩
 clear aA ad;go_wp2_with fail
 refine cz.mono ?_;rintro e w3 ⟨rfl,rfl⟩;clear cz;by_cases ae:(nx:Int)=pd
 case neg=>
  have a0:((nx:Int) != pd)=true:=by simpa using ae
  have V:Hid _:=ak.out (fun h=>ae (by rw [<- H.out.2.2.2.2.2,<- U.out.1];exact h.2)) w3 af.out;clear ak ae;go_wp2;exact bodyPost_ret (v:=.tuple #[.int .i64 0,.slice none 0 0,.int .i64 1]) (by simp [results,Tryz.results22,go_sem]) rfl V.out
 have a0:((nx:Int) != pd)=false:=by simpa using ae
 have ax:Hid ((nx:Int)=pd):=ae;clear ae ak;have ac:Hid (Rn B w w3):=Rn.of J.out.1 af.out;have aG:=k_U B d ls M L.out.1 L.out.2.2 P X (by rw [H.out.2.2.2.2.1,ah.out];exact U.out.2) J.out.2.2.2.2.2.2.2.2.2.1 p p2 ps pp px n c n2 c2 M.length cs np cp nx cx w3 (Nat.le_trans J.out.1 af.out.size) (J.out.2.2.2.2.1.up ac.out) (fun W' a3=>J.out.2.2.2.2.2.1 W' (ac.out.trans a3)) av.out rfl (J.out.2.2.2.2.2.2.1.up ac.out) J.out.2.2.2.2.2.2.2.1 (J.out.2.2.2.2.2.2.2.2.1.up ac.out);have ar:=h_a d ls M P X ls.length;have ai:=(m_X L.out.1 L.out.2.2 L.out.2.1.ri J.out.2.2.2.2.2.2.2.2.2.2.1 J.out.2.2.2.2.2.2.2.2.2.2.2.1 (P:=P) (X:=X) ls.length (Nat.le_refl _)).1;obtain ⟨sts,aa⟩:∃ z,(plF d ls M P X ls.length).1=z:=⟨_,rfl⟩
 rw [aa] at aG ar ai;have O:Hid ((plF d ls M P X ls.length).1=sts/\sts.length<=97/\(∀ st,st∈sts->SpOk st)/\(∀ st,st∈sts->st.op≠1->RkC st.op)):=⟨aa,by have:=L.out.2.2;omega,ai,by have:=aM.out (by trivial);rw [aa] at this;exact this⟩
 clear ar ai aa av;go_wp2_with fail
 refine aG.mono ?_;rintro e w4 ⟨q,m,r,xs,rfl,hm,au,aP,aH⟩;have HM:Hid (sts.length=m/\w4.ownsRow B 129 7 (.slice q m r) m xs/\StsC B w4 sts xs/\Rn B w w4):=⟨hm,au,aP,ac.out.trans aH⟩
 have a7:m<=97:=by rw [<- hm];exact O.out.2.1
 have an:Hid (TapC w4 B tb ns):=(J.out.2.1.up af.out).rn aH;have aF:=d_B B tb ns w4 an.out;obtain ⟨nl,ap⟩:∃ nl,ns.length=nl:=⟨_,rfl⟩
 have a6:nl<=512:=by rw [<- ap];exact J.out.2.2.2.1
 rw [ap] at aF;have aX:Hid (ns.length=nl):=ap;clear aG hm au aP aH ap g0 g1 kg ac;go_wp2_with fail
 refine aF.mono ?_;rintro e w5 ⟨rfl,rfl⟩;clear aF;by_cases ab:nl+m<=512
 case neg=>
  have aE:(512:Int) < (nl:Int)+(m:Int):=by omega
  have V:Hid (∃ v,Ending.returned (.tuple #[.int .i64 0,.slice none 0 0,.int .i64 2]) = .returned (.tuple #[.int .i64 I.2.2.1,v,.int .i64 I.1])/\OwnK .i64 3 w5 w.heap.size v I.2.2.2/\TapC w5 B tb I.2.1/\Below B w w5):=by
   have h5:I=(2,ns,0,[]):=by
    rw [<- H.out.1];unfold rnF;rw [H.out.2.1,H.out.2.2.1,ah.out,if_pos rfl,if_pos ⟨by rw [H.out.2.2.2.2.1];exact U.out.2,by rw [H.out.2.2.2.2.2,U.out.1];exact ax.out⟩,O.out.1,HM.out.1,aX.out,if_neg ab]
   show ∃ _,_;rw [h5];exact ⟨_,rfl,OwnK.nil _ _ _ _,an.out,HM.out.2.2.2.bel⟩
  clear H O HM ab;go_wp2;exact bodyPost_ret (v:=.tuple #[.int .i64 0,.slice none 0 0,.int .i64 2]) (by simp [results,Tryz.results22,go_sem]) rfl V.out
 have aE:¬ (512:Int) < (nl:Int)+(m:Int):=by omega
 have a2:(nl:Int)+(m:Int)<=512:=by omega
 have aS:=o_B B tb ns J.out.2.2.1 sts (fun i hi=>⟨O.out.2.2.1 _ (i_1 hi),O.out.2.2.2 _ (i_1 hi)⟩) (by have:=O.out.2.1;omega) J.out.2.2.2.1 q m r B xs HM.out.1 w5 an.out (by show ∀ W,_;intro W hW;exact a4.out W (HM.out.2.2.2.bel.trans hW)) HM.out.2.1 HM.out.2.2.1
 have aT:Hid (I=((pyF ns.length sts ns m).1,(pyF ns.length sts ns m).2.1,(if (pyF ns.length sts ns m).1=0 then (pyF ns.length sts ns m).2.2.1 else 0),(if (pyF ns.length sts ns m).1=0 then (pyF ns.length sts ns m).2.2.2 else []))):=by
  show _=_;rw [<- H.out.1];unfold rnF;rw [H.out.2.1,H.out.2.2.1,ah.out,if_pos rfl,if_pos ⟨by rw [H.out.2.2.2.2.1];exact U.out.2,by rw [H.out.2.2.2.2.2,U.out.1];exact ax.out⟩,O.out.1,HM.out.1,if_pos (by rw [aX.out];exact ab)]
 have aU:Calls Tryz.prog 41 #[.pointer (some ⟨tb,0,none⟩),.slice q m r] w5 fun e w'=>∃ v,e = .returned (.tuple #[.int .i64 I.2.2.1,v,.int .i64 I.1])/\OwnK .i64 3 w' w.heap.size v I.2.2.2/\TapC w' B tb I.2.1/\Below B w w':=by
  refine aS.mono ?_;rintro e w' ⟨v,h1,h2,h3,h4,_⟩;rw [aT.out];exact ⟨v,h1,h2.low HM.out.2.2.2.size,h3,HM.out.2.2.2.bel.trans h4⟩
 clear aS aT O H HM ab J U ax ah L an aM;go_wp2_with fail
 refine aU.mono ?_;rintro e w6 ⟨v6,rfl,h6⟩;have HF:Hid _:=h6;clear h6 aU;go_wp2;exact bodyPost_ret (v:=.tuple #[.int .i64 I.2.2.1,v6,.int .i64 I.1]) (by simp [results,Tryz.results22,go_sem]) rfl ⟨_,rfl,HF.out⟩
theorem NodesV.st {f:Int} {ns:List Nd} {st:Sp} (h:NodesV ns):NodesV (stN f ns st):=by
 unfold stN
 split
 ·exact h.leaf
 ·exact h.do
theorem NodesK.st {f:Int} {ns:List Nd} {st:Sp} (h:NodesK ns) (D:InR st.k) (I:st.op≠1->GvC st.op):NodesK (stN f ns st):=by
 unfold stN
 split
 ·exact h.leaf
 ·rename_i H
  exact h.do D (I H)
/-- A step that may be played and swept back. -/
structure SpK (st:Sp):Prop where
 k:InR st.k
 g:st.op≠1->GvC st.op
 x:RI st.X
 p:st.par=true->st.op=1
theorem s_c {sts:List Sp} (h:∀ st,st∈sts->SpK st) (i:Nat):SpK (spA sts i):=by
 by_cases D:i < sts.length
 ·exact h _ (i_1 D)
 ·unfold spA;rw [List.getD_eq_getElem?_getD,List.getElem?_eq_none (by omega)];exact ⟨by show InR 0;unfold InR;omega,fun h=>absurd rfl h,RI.nil,fun h=>by cases h⟩
theorem m_Y {f:Int} {sts:List Sp} (h:∀ st,st∈sts->SpK st) {ns:List Nd} (H:NodesG ns) (D:NodesV ns) (hK:NodesK ns):∀ i,NodesG (pyF f sts ns i).2.1/\NodesV (pyF f sts ns i).2.1/\NodesK (pyF f sts ns i).2.1
 | 0=>⟨H,D,hK⟩
 | i+1=>by
  obtain ⟨a,b,c⟩:=m_Y (f:=f) h H D hK i;have s:=s_c h i;unfold pyF
  split
  ·exact ⟨a.st s.x,b.st,c.st s.k s.g⟩
  ·exact ⟨a,b,c⟩
/-- A step that is laid: one node more, which its Leaf holds. -/
theorem t_j {f:Int} {ns:List Nd} {st:Sp} (h:stE f ns st=0):stR f ns st=(ns.length:Int)/\∃ nd,stN f ns st=ns++[nd]/\(st.op=1->nd.X=st.X):=by
 unfold stE at h;unfold stR stN;by_cases I:st.op=1
 ·rw [if_pos I] at h ⊢;rw [if_pos I];unfold e_M at h;by_cases J:512<=ns.length
  ·rw [if_pos J] at h;cases h
  ·rw [if_neg J] at h;by_cases H:isP st.D st.X
   ·have L:ns.length < 512/\isP st.D st.X:=⟨by omega,H⟩
    unfold e_N c_B;rw [if_pos L,if_pos L];exact ⟨rfl,_,rfl,fun _=>rfl⟩
   ·rw [if_neg H] at h;cases h
 ·rw [if_neg I] at h ⊢;rw [if_neg I];unfold doE at h;by_cases J:512<=ns.length
  ·rw [if_pos J] at h;cases h
  ·rw [if_neg J] at h;by_cases H:okD ns st.op (f+st.a) (f+st.b)
   ·rw [if_pos H] at h;have L:doP ns st.op (f+st.a) (f+st.b) st.k:=⟨⟨by omega,H⟩,h⟩
    unfold doR doN;rw [if_pos L,if_pos L];exact ⟨rfl,_,rfl,fun e=>absurd e I⟩
   ·rw [if_neg H] at h;cases h
theorem h_c {α β:Type} {f g:α->List β}:∀ {l:List α},(∀ x,x∈l->f x=g x)->l.flatMap f=l.flatMap g
 | [],_=>rfl
 | x :: l,h=>by
  rw [List.flatMap_cons,List.flatMap_cons,h x (List.mem_cons_self ..),h_c fun y D=>h y (List.mem_cons_of_mem _ D)]
/-- The numbers that the nodes hold, in a row. -/
def ndX (ns:List Nd) (ps:List Int):List Int:=ps.flatMap fun i=>(ndN ns i).X
def h_8 (sts:List Sp):List Int:=(sts.filter (·.par)).flatMap (·.X)
theorem e_2 (a b:List Sp):h_8 (a++b)=h_8 a++h_8 b:=by
 unfold h_8;rw [List.filter_append,List.flatMap_append]
theorem k_d {ns:List Nd} {nd:Nd} {ps:List Int} (h:∀ i,i∈ps->0<=i/\i < (ns.length:Int)):ndX (ns++[nd]) ps=ndX ns ps:=by
 unfold ndX;refine h_c fun i D=>?_;rw [g_0 (h i D)]
theorem o_C {sts:List Sp} {i:Nat} (D:i < sts.length):sts.take (i+1)=sts.take i++[spA sts i]:=by
 rw [List.take_add_one,List.getElem?_eq_getElem D];unfold spA;rw [List.getD_eq_getElem?_getD,List.getElem?_eq_getElem D];rfl
theorem h_9 {f:Int} {sts:List Sp} (h:∀ st,st∈sts->SpK st) {ns:List Nd}:∀ i,i<=sts.length->(pyF f sts ns i).1=0->(pyF f sts ns i).2.1.length=ns.length+i/\(∀ x,x∈(pyF f sts ns i).2.2.2->0<=x/\x < ((pyF f sts ns i).2.1.length:Int))/\ndX (pyF f sts ns i).2.1 (pyF f sts ns i).2.2.2=h_8 (sts.take i)
 | 0,_,_=>⟨rfl,fun x L=>by simp [pyF] at L,rfl⟩
 | i+1,hi,h0=>by
  have s:=s_c h i
  have M:(pyF f sts ns i).1=0:=by
   refine Classical.byContradiction fun O=>?_;rw [pyF,if_neg O] at h0;exact O h0
  obtain ⟨a,b,c⟩:=h_9 h i (by omega) M;rw [pyF,if_pos M] at h0 ⊢;dsimp only at h0 ⊢;obtain ⟨r,nd,e,L⟩:=t_j h0;rw [e,r,List.length_append,List.length_singleton,a];rw [o_C (by omega),e_2,<- c];by_cases H:(spA sts i).par=true
  ·rw [if_pos H];refine ⟨by omega,fun x D=>?_,?_⟩
   ·rcases List.mem_append.1 D with J|J
    ·have:=b x J;rw [a] at this;omega
    ·simp at J;omega
   ·have I:h_8 [spA sts i]=(spA sts i).X:=by
     unfold h_8;simp [H]
    have R:ndX ((pyF f sts ns i).2.1++[nd]) ((pyF f sts ns i).2.2.2++[((ns.length+i:Nat):Int)])=ndX ((pyF f sts ns i).2.1++[nd]) (pyF f sts ns i).2.2.2++nd.X:=by
     have:=m_r (pyF f sts ns i).2.1 nd;rw [a] at this;unfold ndX;rw [List.flatMap_append];simp only [List.flatMap_cons,List.flatMap_nil,List.append_nil];rw [this]
    rw [R,k_d b,I,L (s.p H)]
  ·rw [if_neg H];refine ⟨by omega,fun x D=>?_,?_⟩
   ·have:=b x D;rw [a] at this;omega
   ·have I:h_8 [spA sts i] = []:=by
     unfold h_8;simp [H]
    rw [k_d b,I,List.append_nil]
/-- The parameters, Leaf by Leaf. -/
theorem s_d (PP:List (List Int)) (rest:List Int):∀ j,h_8 (prS PP rest j).1++(prS PP rest j).2=rest
 | 0=>rfl
 | j+1=>by
  have D:=s_d PP rest j;show h_8 ((prS PP rest j).1++[spL (shA PP j) ((prS PP rest j).2.take (a_t (shA PP j)).toNat)])++(prS PP rest j).2.drop (a_t (shA PP j)).toNat=rest;rw [e_2];have:h_8 [spL (shA PP j) ((prS PP rest j).2.take (a_t (shA PP j)).toNat)]=(prS PP rest j).2.take (a_t (shA PP j)).toNat:=by simp [h_8]
  rw [this,List.append_assoc,List.take_append_drop];exact D
theorem s_e (l:Ly) (d:List Int) (N:Nat) (rest:List Int) (H D:Int):h_8 (f_O l d N rest H D)++h_7 l d rest=rest:=by
 unfold f_O h_7;rw [e_2]
 have:h_8 (if a_s l.1=0 then n_k (decide (d.length=2)) (N+2) (N:Int) ((N+1:Nat):Int) D else if a_s l.1=1 then [spD 12 D (N:Int) 1] else if a_s l.1=2 then [spD 13 D 0 l.2.1] else if a_s l.1=3 then [spD 11 D 0 l.2.1] else [spD 2 H D 0]) = []:=by
  unfold n_k
  repeat' split
  all_goals rfl
 rw [this,List.append_nil];exact s_d _ _ _
theorem s_f (d:List Int) (ls:List Ly) (S:List (List Int)) (P X:List Int):∀ i,h_8 (plF d ls S P X i).1++(plF d ls S P X i).2.1=P
 | 0=>rfl
 | i+1=>by
  have D:=s_f d ls S P X i;show h_8 ((plF d ls S P X i).1++f_O (lyA ls i) (shA S i) (plF d ls S P X i).1.length (plF d ls S P X i).2.1 (plF d ls S P X i).2.2.1 (plF d ls S P X i).2.2.2)++h_7 (lyA ls i) (shA S i) (plF d ls S P X i).2.1=P;rw [e_2,List.append_assoc,s_e];exact D
/-- The Ops of a plan. -/
def t_k (op:Int):Prop:=op=1∨op=2∨op=4∨op=8∨op=11∨op=12∨op=13∨op=14
theorem k_e (PP:List (List Int)) (rest:List Int):∀ j st,st∈(prS PP rest j).1->st.op=1
 | 0,st,h=>by simp [prS] at h
 | j+1,st,h=>by
  rcases List.mem_append.1 (show st∈(prS PP rest j).1++[spL (shA PP j) ((prS PP rest j).2.take (a_t (shA PP j)).toNat)] from h) with h|h
  ·exact k_e PP rest j st h
  ·simp at h;subst h;rfl
theorem q_T (l:Ly) (d:List Int) (N:Nat) (rest:List Int) (H D:Int):∀ st,st∈f_O l d N rest H D->t_k st.op/\(st.par=true->st.op=1):=by
 intro st h;unfold f_O at h;rcases List.mem_append.1 h with h|h
 ·exact ⟨.inl (k_e _ _ _ st h),fun _=>k_e _ _ _ st h⟩
 ·unfold n_k at h;unfold t_k
  repeat' split at h
  all_goals
   simp only [List.mem_cons,List.not_mem_nil,or_false] at h
   first
    | (rcases h with h|h|h|h <;> subst h <;> exact ⟨by simp [spD],fun e=>by simp [spD] at e⟩)
    | (rcases h with h|h|h <;> subst h <;> exact ⟨by simp [spD],fun e=>by simp [spD] at e⟩)
    | (subst h;exact ⟨by simp [spD],fun e=>by simp [spD] at e⟩)
theorem m_Z (d:List Int) (ls:List Ly) (S:List (List Int)) (P X:List Int):∀ i st,st∈(plF d ls S P X i).1->t_k st.op/\(st.par=true->st.op=1)
 | 0,st,h=>by
  simp [plF] at h;subst h;exact ⟨.inl rfl,fun e=>rfl⟩
 | i+1,st,h=>by
  rcases List.mem_append.1 (show st∈(plF d ls S P X i).1++f_O (lyA ls i) (shA S i) (plF d ls S P X i).1.length (plF d ls S P X i).2.1 (plF d ls S P X i).2.2.1 (plF d ls S P X i).2.2.2 from h) with h|h
  ·exact m_Z d ls S P X i st h
  ·exact q_T _ _ _ _ _ _ st h
/-- What Run leaves: nodes that may be swept back; the parameters' own hold just them. -/
structure RnO (R:Int×List Nd×Int×List Int) (P:List Int):Prop where
 g:NodesG R.2.1
 v:NodesV R.2.1
 k:NodesK R.2.1
 l:R.2.1.length<=512
 m:R.2.2.2.length<=512
 p:R.1=0->(∀ x,x∈R.2.2.2->0<=x/\x < (R.2.1.length:Int))/\ndX R.2.1 R.2.2.2=P
theorem m_0 {f:Int} {sts:List Sp} {ns:List Nd} (h:ns.length<=512):∀ i,(pyF f sts ns i).2.1.length<=512
 | 0=>h
 | i+1=>by
  have D:=m_0 (f:=f) (sts:=sts) h i;unfold pyF
  split
  ·show (stN f _ _).length<=512;unfold stN
   split
   ·exact j_U _ _ _ D
   ·exact p_d _ _ _ _ _ D
  ·exact D
theorem s_g {d:List Int} {ls:List Ly} {P X:List Int} (hP:RI P) (hX:RI X) (O:nE d ls=0->∀ st,st∈(plF d ls (nS d ls) P X ls.length).1->st.op≠1->GvC st.op):RnO (rnF d ls [] P X) P:=by
 have no:∀ e:Int,e≠0->RnO (e,[],0,[]) P:=fun e he=>⟨fun nd h=>by simp at h,NodesV.nil,NodesK.nil,by simp,by simp,fun h=>absurd h he⟩
 unfold rnF;by_cases I:nE d ls=0
 ·rw [if_pos I];by_cases J:(P.length:Int)=b_4 ls (nS d ls) ls.length/\(X.length:Int)=a_t d
  ·rw [if_pos J];by_cases L:([]:List Nd).length+(plF d ls (nS d ls) P X ls.length).1.length<=512
   ·rw [if_pos L];obtain ⟨S,hf,hs,R⟩:=e_Z I;obtain ⟨_,M,_⟩:=k_N hf hs R;have V:=NetOk.of hf hs
    have D:∀ st,st∈(plF d ls (nS d ls) P X ls.length).1->SpK st:=fun st H=>by
     have a:=((m_X V (by unfold e_O at R;simp at R;omega) ((c_f d ls).1 hf).1.ri hP hX ls.length (Nat.le_refl _)).1 st (by rw [<- M];exact H))
     refine ⟨?_,O I st H,a.rX,(m_Z _ _ _ _ _ _ st H).2⟩;have:=a.rk;unfold InR;omega
    obtain ⟨a,b,c⟩:=m_Y (f:=((([]:List Nd).length:Nat):Int)) D (ns:=[]) (fun nd h=>by simp at h) NodesV.nil NodesK.nil (plF d ls (nS d ls) P X ls.length).1.length;refine ⟨a,b,c,m_0 (by simp) _,?_,fun e=>?_⟩
    ·show (if _ then _ else _:List Int).length<=512
     split
     ·have:=i_0 ((([]:List Nd).length:Nat):Int) (plF d ls (nS d ls) P X ls.length).1 [] (plF d ls (nS d ls) P X ls.length).1.length;simp only [List.length_nil,Nat.zero_add] at L;omega
     ·simp
    have U:(pyF ((([]:List Nd).length:Nat):Int) (plF d ls (nS d ls) P X ls.length).1 [] (plF d ls (nS d ls) P X ls.length).1.length).1=0:=e;obtain ⟨_,q,r⟩:=h_9 D (ns:=[]) _ (Nat.le_refl _) U;dsimp only;rw [if_pos U];refine ⟨q,?_⟩;rw [r,List.take_length];have x:=s_f d ls (nS d ls) P X ls.length;have y:=(h_b (P:=P) (X:=X) V (by rw [<- M];exact J.1) ls.length (Nat.le_refl _)).1;rw [<- M] at y;have z:(plF d ls (nS d ls) P X ls.length).2.1 = []:=List.eq_nil_of_length_eq_zero (by omega);rw [z,List.append_nil] at x;exact x
   ·rw [if_neg L];exact no 2 (by decide)
  ·rw [if_neg J];exact no 1 (by decide)
 ·rw [if_neg I];exact no _ I
theorem t_l {ns:List Nd} {s:Nd} (h:lsE ns s=0):lsR ns s=(ns.length:Int)/\∃ nd,lsN ns s=ns++[nd]:=by
 unfold lsE at h;unfold lsR lsN;by_cases L:s.op=1
 ·rw [if_pos L] at h ⊢;rw [if_pos L];unfold e_M at h;by_cases I:512<=ns.length
  ·rw [if_pos I] at h;cases h
  ·rw [if_neg I] at h;by_cases H:isP s.D s.X
   ·have J:ns.length < 512/\isP s.D s.X:=⟨by omega,H⟩
    unfold e_N c_B;rw [if_pos J,if_pos J];exact ⟨rfl,_,rfl⟩
   ·rw [if_neg H] at h;cases h
 ·rw [if_neg L] at h ⊢;rw [if_neg L];unfold doE at h;by_cases I:512<=ns.length
  ·rw [if_pos I] at h;cases h
  ·rw [if_neg I] at h;by_cases H:okD ns s.op s.a s.b
   ·rw [if_pos H] at h;have J:doP ns s.op s.a s.b s.k:=⟨⟨by omega,H⟩,h⟩
    unfold doR doN;rw [if_pos J,if_pos J];exact ⟨rfl,_,rfl⟩
   ·rw [if_neg H] at h;cases h
theorem m_1 {sts ns:List Nd}:∀ i,(lyF sts ns i).1=0->∃ ms,(lyF sts ns i).2.1=ns++ms/\ms.length=i/\(0 < i->(lyF sts ns i).2.2+1=((ns.length+i:Nat):Int))
 | 0,_=>⟨[],by simp [lyF],rfl,fun h=>by omega⟩
 | i+1,h=>by
  have D:(lyF sts ns i).1=0:=by
   refine Classical.byContradiction fun H=>?_;rw [lyF,if_neg H] at h;exact H h
  obtain ⟨ms,a,b,_⟩:=m_1 i D;rw [lyF,if_pos D] at h ⊢;dsimp only at h ⊢;obtain ⟨r,nd,e⟩:=t_l h;refine ⟨ms++[nd],?_,by simp [b],fun _=>?_⟩
  ·rw [e,a,List.append_assoc]
  ·rw [r,a,List.length_append,b];omega
theorem s_h {e:Int} {ns sts:List Nd} (I:0 < sts.length) (h:loE e ns sts=0):∃ ms,loN e ns sts=ns++ms/\ms.length=sts.length/\loR e ns sts+1=((ns.length+sts.length:Nat):Int)/\ns.length+sts.length<=512:=by
 unfold loE at h;by_cases H:e=0
 ·rw [if_pos H] at h;unfold lyE at h;by_cases D:lyP ns sts
  ·rw [if_pos D] at h;obtain ⟨ms,a,b,c⟩:=m_1 _ h;unfold loN loR lyM lyR;rw [if_pos H,if_pos H,if_pos D,if_pos ⟨D,h⟩];exact ⟨ms,a,b,c I,D⟩
  ·rw [if_neg D] at h;cases h
 ·rw [if_neg H] at h;exact absurd h H
theorem p_p {sts ns:List Nd} (h:ns.length<=512):∀ i,(lyF sts ns i).2.1.length<=512
 | 0=>h
 | i+1=>by
  have D:=p_p (sts:=sts) h i;unfold lyF
  split
  ·show (lsN _ _).length<=512;unfold lsN
   split
   ·exact j_U _ _ _ D
   ·exact p_d _ _ _ _ _ D
  ·exact D
theorem s_i {e:Int} {ns sts:List Nd} (h:ns.length<=512):(loN e ns sts).length<=512:=by
 unfold loN lyM
 split
 ·split
  ·exact p_p h _
  ·exact h
 ·exact h
/-- The loss of a kind: its error, its node, the nodes. -/
def gkS (k o cl:Int) (ns:List Nd) (y:List Int):Int×List Nd:=if k=1 then (e_e ns o y,sqS (ns.length:Int) o y) else if k=2 then (e_e ns o y,szS (ns.length:Int) o y) else (i_I ns o cl,hgS (ns.length:Int) o (m_q ns o cl) cl)
def gkE (k o cl:Int) (ns:List Nd) (y:List Int):Int:=loE (gkS k o cl ns y).1 ns (gkS k o cl ns y).2
def gkR (k o cl:Int) (ns:List Nd) (y:List Int):Int:=loR (gkS k o cl ns y).1 ns (gkS k o cl ns y).2
def gkN (k o cl:Int) (ns:List Nd) (y:List Int):List Nd:=loN (gkS k o cl ns y).1 ns (gkS k o cl ns y).2
theorem q_U (k o cl:Int) (ns:List Nd) (y:List Int):0 < (gkS k o cl ns y).2.length:=by
 unfold gkS
 split
 ·simp [sqS]
 ·split
  ·simp [szS]
  ·simp [hgS]
theorem t_m {k o cl:Int} {ns:List Nd} {y:List Int} (H:RI y) (D:NodesG ns) (I:NodesV ns) (hK:NodesK ns) (J:ns.length<=512):NodesG (gkN k o cl ns y)/\NodesV (gkN k o cl ns y)/\NodesK (gkN k o cl ns y)/\(gkN k o cl ns y).length<=512:=by
 refine ⟨?_,I.lo,?_,s_i J⟩
 ·unfold gkN gkS
  split
  ·exact D.lo (s_7 H)
  ·split
   ·exact D.lo (s_8 H)
   ·exact D.lo s_9
 ·unfold gkN gkS
  split
  ·exact hK.lo t_f
  ·split
   ·exact hK.lo t_g
   ·exact hK.lo t_h
/-- The gradients of the parameters' nodes, in a row. -/
def d_G (G:List Ten) (ps:List Int):List Int:=ps.flatMap fun i=>(G.getD i.toNat noT).2
/-- What is told where the loss' node r stands on the tape N: an error, the row, the loss. -/
def gfT (N:List Nd) (r:Int) (ps:List Int):Int×List Int×Int:=if swE N r=0 then (0,d_G (swL N r) ps,(ndN N r).X.getD 0 0) else (swE N r,[],0)
def gfR (k cl:Int) (y:List Int) (R:Int×List Nd×Int×List Int):Int×List Int×Int:=if R.1=0 then if gkE k R.2.2.1 cl R.2.1 y=0 then gfT (gkN k R.2.2.1 cl R.2.1 y) (gkR k R.2.2.1 cl R.2.1 y) R.2.2.2 else (gkE k R.2.2.1 cl R.2.1 y,[],0) else (R.1,[],0)
def gof (d:List Int) (ls:List Ly) (k:Int) (P X y:List Int) (cl:Int):Int×List Int×Int:=if 1<=k/\k<=3 then gfR k cl y (rnF d ls [] P X) else (1,[],0)
/-- A row that was told is as long as the parameters, and Go's. -/
def GfO (n:Nat) (T:Int×List Int×Int):Prop:=(T.1=0->T.2.1.length=n)/\RI T.2.1/\InR T.2.2
theorem GfO.no (n:Nat) {e:Int} (h:e≠0):GfO n (e,[],0):=⟨fun D=>absurd D h,RI.nil,by show InR 0;unfold InR;omega⟩
/-- The gradient of a node ahead of the root. -/
theorem s_j {N:List Nd} {r:Int} (I:NodesG N) (L:NodesV N) (h:swE N r=0):(0<=r/\r < (N.length:Int))/\(ndN N r).X.length=1/\(swL N r).length=r.toNat+1/\∀ i:Int,0<=i->i<=r->b_b ((swL N r).getD i.toNat noT)/\((swL N r).getD i.toNat noT).2.length=(ndN N i).X.length:=by
 have J:=h;unfold swE at h;by_cases D:0<=r/\r < (N.length:Int)
 ·rw [if_pos D] at h;by_cases H:(ndN N r).X.length=1
  ·obtain ⟨q,rfl⟩:=Int.eq_ofNat_of_zero_le D.1;have S:=q_A I L (root:=q) (by omega) H (q+1);unfold swL;rw [if_pos J,Int.toNat_natCast];refine ⟨D,H,S.l,fun i M O=>?_⟩;obtain ⟨j,rfl⟩:=Int.eq_ofNat_of_zero_le M;rw [Int.toNat_natCast];obtain ⟨a,b⟩:=S.g j (by omega);refine ⟨a,?_⟩;have c:=I.at (i:=(j:Int)) (by omega) (by omega)
   rw [a.1.2,b,c.1.2]
  ·rw [if_neg H] at h;cases h
 ·rw [if_neg D] at h;cases h
theorem h_d {N:List Nd} {G:List Ten}:∀ {ps:List Int},(∀ i,i∈ps->(G.getD i.toNat noT).2.length=(ndN N i).X.length)->(d_G G ps).length=(ndX N ps).length
 | [],_=>rfl
 | i :: ps,h=>by
  have D:=h_d (N:=N) (G:=G) (ps:=ps) fun j H=>h j (List.mem_cons_of_mem _ H);unfold d_G ndX at D ⊢;rw [List.flatMap_cons,List.flatMap_cons,List.length_append,List.length_append,D,h i (List.mem_cons_self ..)]
theorem q_V {G:List Ten} {ps:List Int} (h:∀ i,i∈ps->b_b (G.getD i.toNat noT)):RI (d_G G ps):=fun x D=>by
 obtain ⟨i,I,H⟩:=List.mem_flatMap.1 D;exact (h i I).2.2 x H
theorem t_n {N:List Nd} {r:Int} {ps:List Int} (L:NodesG N) (M:NodesV N) {n:Nat} (H:∀ i,i∈ps->0<=i/\i<=r) (O:(ndX N ps).length=n):GfO n (gfT N r ps):=by
 unfold gfT;by_cases h:swE N r=0
 ·rw [if_pos h];obtain ⟨I,R,_,J⟩:=s_j L M h;refine ⟨fun _=>?_,q_V fun i D=>(J i (H i D).1 (H i D).2).1,?_⟩
  ·show (d_G _ ps).length=n;rw [<- O];exact h_d fun i D=>(J i (H i D).1 (H i D).2).2
  ·have:=(L.at I.1 I.2).2.2;show InR ((ndN N r).X.getD 0 0);rw [List.getD_eq_getElem?_getD,List.getElem?_eq_getElem (by omega)];exact this _ (List.getElem_mem _)
 ·rw [if_neg h];exact GfO.no n h
theorem o_D {ns ms:List Nd} {ps:List Int} (h:∀ i,i∈ps->0<=i/\i < (ns.length:Int)):ndX (ns++ms) ps=ndX ns ps:=by
 unfold ndX;refine h_c fun i D=>?_;rw [g_0 (h i D)]
/-- What Run left, and a loss laid on it. -/
structure GkO (N:List Nd) (r:Int) (ps:List Int) (n:Nat):Prop where
 g:NodesG N
 v:NodesV N
 k:NodesK N
 l:N.length<=512
 m:ps.length<=512
 p:∀ i,i∈ps->0<=i/\i<=r
 n:(ndX N ps).length=n
theorem RnO.gk {R:Int×List Nd×Int×List Int} {P:List Int} (h:RnO R P) {k cl:Int} {y:List Int} (L:RI y) (I:R.1=0) (H:gkE k R.2.2.1 cl R.2.1 y=0):GkO (gkN k R.2.2.1 cl R.2.1 y) (gkR k R.2.2.1 cl R.2.1 y) R.2.2.2 P.length:=by
 obtain ⟨a,b,c,d⟩:=t_m (k:=k) (o:=R.2.2.1) (cl:=cl) L h.g h.v h.k h.l;obtain ⟨p,q⟩:=h.p I;have D:=q_U k R.2.2.1 cl R.2.1 y;obtain ⟨ms,e,M,O,U⟩:=s_h D H;refine ⟨a,b,c,d,h.m,fun i J=>?_,?_⟩
 ·have:=p i J;show 0<=i/\i<=loR _ _ _;omega
 ·show (ndX (loN _ _ _) _).length=_;rw [e,o_D p,q]
theorem t_o {d:List Int} {ls:List Ly} {k cl:Int} {P X y:List Int} (J:RnO (rnF d ls [] P X) P) (L:RI y):GfO P.length (gof d ls k P X y cl):=by
 unfold gof;by_cases I:1<=k/\k<=3
 ·rw [if_pos I];unfold gfR;by_cases H:(rnF d ls [] P X).1=0
  ·rw [if_pos H];by_cases D:gkE k (rnF d ls [] P X).2.2.1 cl (rnF d ls [] P X).2.1 y=0
   ·rw [if_pos D];have g:=J.gk L H D;exact t_n g.g g.v g.p g.n
   ·rw [if_neg D];exact GfO.no _ D
  ·rw [if_neg H];exact GfO.no _ H
 ·rw [if_neg I];exact GfO.no _ (by decide)
/-- An example: what comes in, what is wanted, the class. -/
abbrev Exm:=List Int×List Int×Int
def g_s (d:List Int) (ls:List Ly) (k:Int) (P:List Int) (e:Exm):Int×List Int×Int:=gof d ls k P e.1 e.2.1 e.2.2
/-- Number by number, as Wides. -/
def i_a (s x:List Int):List Int:=(List.range s.length).map fun i=>wr (s.getD i 0+x.getD i 0)
def exA (l:List Exm) (i:Nat):Exm:=l.getD i ([],[],0)
/-- What the first i examples come to: an error, the sums, the losses' sum. -/
def smK (f:Exm->Int×List Int×Int) (n:Nat) (l:List Exm):Nat->Int×List Int×Int
 | 0=>(0,List.replicate n 0,0)
 | i+1=>if (smK f n l i).1=0 then if (f (exA l i)).1=0 then (0,i_a (smK f n l i).2.1 (f (exA l i)).2.1,wr ((smK f n l i).2.2+(f (exA l i)).2.2)) else ((f (exA l i)).1,[],0) else smK f n l i
theorem k_f (f:Exm->Int×List Int×Int) (n:Nat) (l:List Exm) (i:Nat) (h:(smK f n l i).1≠0):∀ k,smK f n l (i+k)=smK f n l i
 | 0=>rfl
 | k+1=>by
  have:=k_f f n l i h k;rw [<- Nat.add_assoc,smK,this,if_neg h]
theorem q_W {l m:List Exm} {i:Nat} (h:i < l.length):exA (l++m) i=exA l i:=by
 unfold exA;rw [List.getD_eq_getElem?_getD,List.getD_eq_getElem?_getD,List.getElem?_append_left h]
def s_k (f:Exm->Int×List Int×Int) (j:Nat) (l:List Exm):Int:=(l.map fun e=>(f e).2.1.getD j 0).sum
def s_F (f:Exm->Int×List Int×Int) (l:List Exm):Int:=(l.map fun e=>(f e).2.2).sum
def k_7 (f:Exm->Int×List Int×Int) (n:Nat) (l:List Exm):List Int:=(List.range n).map fun j=>wr (s_k f j l)
theorem q_X (f:Exm->Int×List Int×Int) (n:Nat) (l:List Exm) (i:Nat) (h:i < n):(k_7 f n l).getD i 0=wr (s_k f i l):=by
 unfold k_7;rw [List.getD_eq_getElem?_getD,List.getElem?_map,List.getElem?_range h];rfl
theorem k_g (f:Exm->Int×List Int×Int) (n:Nat) (l:List Exm):(k_7 f n l).length=n:=by simp [k_7]
theorem o_E (s x:List Int):(i_a s x).length=s.length:=by simp [i_a]
theorem o_F (f:Exm->Int×List Int×Int) (n:Nat) (l:List Exm) (e:Exm):i_a (k_7 f n l) (f e).2.1=k_7 f n (l++[e]):=by
 show (List.range (k_7 f n l).length).map _=(List.range n).map _;rw [k_g];refine List.map_congr_left fun i D=>?_;have D:=List.mem_range.1 D;rw [q_X _ _ _ _ D,o_3]
 congr 1
 unfold s_k;rw [List.map_append,List.sum_append];simp
theorem k_h {l:List Exm} {i:Nat} (D:i < l.length):l.take (i+1)=l.take i++[exA l i]:=by
 rw [List.take_add_one,List.getElem?_eq_getElem D];unfold exA;rw [List.getD_eq_getElem?_getD,List.getElem?_eq_getElem D];rfl
theorem o_G (f:Exm->Int×List Int×Int) (n:Nat):k_7 f n []=List.replicate n 0:=by
 unfold k_7;refine List.ext_getElem (by simp) fun i D H=>?_;simp [s_k];rfl
theorem p_q (f:Exm->Int×List Int×Int) (n:Nat) (l:List Exm):∀ i,i<=l.length->(∀ e,e∈l.take i->(f e).1=0)->smK f n l i=(0,k_7 f n (l.take i),wr (s_F f (l.take i)))
 | 0,_,_=>by
  rw [smK,List.take_zero,o_G];rfl
 | i+1,hi,h=>by
  rw [k_h (by omega)] at h ⊢;have H:=p_q f n l i (by omega) fun e he=>h e (List.mem_append_left _ he);have D:=h (exA l i) (List.mem_append_right _ (List.mem_singleton_self _));rw [smK,H,if_pos rfl,if_pos D];dsimp only;rw [o_F,o_3];unfold s_F;rw [List.map_append,List.sum_append];simp
theorem m_2 (f:Exm->Int×List Int×Int) (n:Nat) (l:List Exm):∀ i,i<=l.length->(smK f n l i).1=0->∀ e,e∈l.take i->(f e).1=0
 | 0,_,_,e,he=>by simp at he
 | i+1,hi,h,e,he=>by
  have H:(smK f n l i).1=0:=by
   refine Classical.byContradiction fun D=>?_;rw [smK,if_neg D] at h;exact D h
  rw [k_h (by omega)] at he;rw [smK,if_pos H] at h;rcases List.mem_append.1 he with he|he
  ·exact m_2 f n l i (by omega) H e he
  ·rw [List.mem_singleton] at he;subst he;refine Classical.byContradiction fun D=>?_;rw [if_neg D] at h;exact D h
/-- All examples summed. -/
def i_h (f:Exm->Int×List Int×Int) (n:Nat) (l:List Exm):Int×List Int×Int:=smK f n l l.length
theorem i_2 {f:Exm->Int×List Int×Int} {n:Nat} {l:List Exm} (h:∀ e,e∈l->(f e).1=0):i_h f n l=(0,k_7 f n l,wr (s_F f l)):=by
 have:=p_q f n l l.length (Nat.le_refl _) (by rw [List.take_length];exact h);rwa [List.take_length] at this
theorem k_i {f:Exm->Int×List Int×Int} {n:Nat} {l:List Exm} (h:(i_h f n l).1=0):∀ e,e∈l->(f e).1=0:=by
 have:=m_2 f n l l.length (Nat.le_refl _) h;rwa [List.take_length] at this
theorem o_H {l m:List Int} (p:l.Perm m):l.sum=m.sum:=by
 induction p with
 | nil=>rfl
 | cons x _ ih=>rw [List.sum_cons,List.sum_cons,ih]
 | swap x y l=>rw [List.sum_cons,List.sum_cons,List.sum_cons,List.sum_cons];omega
 | trans _ _ a b=>exact a.trans b
theorem i_b {f:Exm->Int×List Int×Int} {n:Nat} {l m:List Exm} (h:(i_h f n l).1=0) (p:l.Perm m):i_h f n m=i_h f n l:=by
 have a:=k_i h;rw [i_2 a,i_2 fun e he=>a e (p.mem_iff.2 he)];have q:∀ g:Exm->Int,(m.map g).sum=(l.map g).sum:=fun g=>(o_H (p.map g)).symm;unfold k_7 s_k s_F;rw [q];refine Prod.ext rfl (Prod.ext ?_ rfl);refine List.map_congr_left fun i _=>?_;rw [q]
end Go.Proofs.YtjlofobnmjompaaGreatDoor.Wd
namespace Go.Proofs.YtjlofobnmjompaaGreatDoor.Wd
open Go.ChangeShapes Go.WideShapes Go.ChangeAt Go.RowKit Go.Joins Go.Deep
def LayN (W:World) (p:Option Addr) (n c:Nat) (ls:List Ly):Prop:=n<=c/\c<=9223372036854775807/\LyR 0 W p n ls
theorem k_W {α:Type} {l:List α} (h:l.length=3):∃ a b c,l = [a,b,c]:=by
 match l,h with
 | [a,b,c],_=>exact ⟨a,b,c,rfl⟩
theorem s_l {W:World} {p:Option Addr} {n:Nat} (h:∀ i,i < n->∃ q o s a b,p=some ⟨q,o,none⟩/\W.cell? ⟨q,o+i*3,none⟩=some (.string s)/\W.cell? ⟨q,o+i*3+1,none⟩=some (.int .i64 a)/\W.cell? ⟨q,o+i*3+2,none⟩=some (.int .i64 b)):∃ ls,LyR 0 W p n ls:=by
 have H:∀ i,∃ l:Ly,i < n->∃ q o,p=some ⟨q,o,none⟩/\W.cell? ⟨q,o+i*3,none⟩=some (.string l.1)/\W.cell? ⟨q,o+i*3+1,none⟩=some (.int .i64 l.2.1)/\W.cell? ⟨q,o+i*3+2,none⟩=some (.int .i64 l.2.2):=fun i=>by
  by_cases D:i < n
  ·obtain ⟨q,o,s,a,b,J⟩:=h i D;exact ⟨(s,a,b),fun _=>⟨q,o,J⟩⟩
  ·exact ⟨lyD,fun I=>absurd I D⟩
 obtain ⟨f,hf⟩:=Classical.axiomOfChoice H;refine ⟨(List.range n).map f,by simp,fun i D=>?_⟩
 have e:lyA ((List.range n).map f) i=f i:=by
  unfold lyA;rw [List.getD_eq_getElem?_getD,List.getElem?_map,List.getElem?_range D];rfl
 rw [e];exact hf i D
theorem m_3 {H:Type} {enc:TypeId×Value->H} {P:Program} {W:World} {t e:TypeId} {f0 f1 f2:Field} {a:Option Addr} {n c:Nat} {d:DataW H} {ps:List MemPlace}
  (ht:P.underlying t=some (.slice e)) (he:P.underlying e=some (.struct #[f0,f1,f2])) (ce:P.cellsOf e=3)
  (o0:f0.offset=0) (o1:f1.offset=1) (o2:f2.offset=2) (c0:P.cellsOf f0.type=1) (c1:P.cellsOf f1.type=1) (c2:P.cellsOf f2.type=1)
  (u0:P.underlying f0.type=some .string) (u1:P.underlying f1.type=some (.int .i64)) (u2:P.underlying f2.type=some (.int .i64))
  (h:DataW.Trod enc P W 0 (fun _=>true) true t (.slice a n c) d ps):∃ ls,LayN W a n c ls:=by
 obtain ⟨fuel,hf⟩:=h;rcases open_slice ht hf with ⟨J,_⟩|⟨x,am,aq,m,fu,D,Pl,J,hb,hl,hm,af,_,hx⟩
 ·simp [Value.cells] at J;obtain ⟨rfl,rfl,rfl⟩:=J;exact ⟨[],Nat.le_refl _,by omega,rfl,fun i hi=>by omega⟩
 ·simp [Value.cells] at J;obtain ⟨rfl,rfl,rfl⟩:=J
  have ak:∃ ls,LyR 0 W (some x) n ls:=s_l fun i hi=>by
   have an:n<=m:=by rw [af];split <;> omega
   obtain ⟨ao,h1,h2⟩:=hx i (by omega);rw [ce] at h1;obtain ⟨_,aa,I⟩:=World.cells?_some h1;obtain ⟨xs,fk,_,_,_,ai,M⟩:=DataW.trod_struct he h2;obtain ⟨y0,y1,y2,rfl⟩:=k_W ai;obtain ⟨v0,v1,v2,rfl⟩:=k_W aa;have t0:=M 0 f0 rfl;have t1:=M 1 f1 rfl;have t2:=M 2 f2 rfl;simp [o0,c0] at t0;simp [o1,c1] at t1;simp [o2,c2] at t2;obtain ⟨z0,ad,_,w0⟩:=DataW.trod_string u0 t0;obtain ⟨z1,ac,_,w1⟩:=DataW.trod_int u1 t1;obtain ⟨z2,R,_,w2⟩:=DataW.trod_int u2 t2;simp only [List.cons.injEq,and_true] at ad ac R;subst ad ac R;have ae:=I 0 (by omega);have ab:=I 1 (by omega);have V:=I 2 (by omega);rw [add_add] at ae ab V
   have ex:x=⟨x.block,x.off,none⟩:=by
    obtain ⟨au,U,_⟩:=hx 0 (by omega);rw [ce] at U;obtain ⟨_,O,L⟩:=World.cells?_some U;obtain ⟨ag,ap,ar,rfl⟩:=k_W O;have h0:=L 0 (by omega);rw [add_add,Nat.zero_mul] at h0;have ah:x.add (0+0)=x:=by simp [Addr.add]
    rw [ah] at h0;exact c_2 (v:=ag) (by simpa using h0)
   have hs:∀ j v,W.cell? (x.add j)=some v->x=⟨x.block,x.off,none⟩/\W.cell? ⟨x.block,x.off+j,none⟩=some v:=fun j v hv=>by
    rw [ex,a_u] at hv;exact ⟨ex,hv⟩
   have n0:=hs _ _ (by simpa using ae);refine ⟨x.block,x.off,z0,z1,z2,by rw [<- n0.1],n0.2,?_,?_⟩
   ·rw [Nat.add_assoc];exact (hs _ _ (by simpa using ab)).2
   ·rw [Nat.add_assoc];exact (hs _ _ (by simpa using V)).2
  obtain ⟨ls,aj⟩:=ak;exact ⟨ls,hl,by unfold maxLen at hm;omega,aj⟩
theorem open_net {H:Type} {enc:TypeId×Value->H} {P:Program} {W:World} {r:Reach} {b0:Nat} {t e0 V:TypeId} {g0 g1 M U O:Field} {v:Value} {d:DataW H} {ps:List MemPlace}
  (hs:P.underlying t=some (.struct #[g0,g1])) (D:oneCellFields P #[g0,g1]=true) (hC:P.cellsOf t=2)
  (t0:P.underlying g0.type=some (.slice e0)) (u0:P.underlying e0=some (.int .i64)) (c0:P.cellsOf e0=1)
  (t1:P.underlying g1.type=some (.slice V)) (he:P.underlying V=some (.struct #[M,U,O])) (ce:P.cellsOf V=3)
  (o0:M.offset=0) (o1:U.offset=1) (o2:O.offset=2) (k0:P.cellsOf M.type=1) (k1:P.cellsOf U.type=1) (k2:P.cellsOf O.type=1)
  (v0:P.underlying M.type=some .string) (v1:P.underlying U.type=some (.int .i64)) (v2:P.underlying O.type=some (.int .i64))
  (hv:Value.okWide P W r b0 t v) (h:DataW.Trod enc P W 0 (fun _=>true) true t v d ps):
  ∃ (a:Option Addr) (n c:Nat) (z:Nat->Int) (R:Option Addr) (L J:Nat) (ls:List Ly),v = .agg #[.slice a n c,.slice R L J]/\RowN .i64 W a n c z/\LayN W R L J ls:=by
 obtain ⟨x0,x1,y0,y1,m,rfl,_,_,h0,h1⟩:=open_agg2 hs D hC hv h;obtain ⟨a,n,c,ea⟩:=slice_form t0 h0;obtain ⟨R,L,J,I⟩:=slice_form t1 h1;simp only [List.cons.injEq,and_true] at ea I;subst ea I;obtain ⟨z,hz⟩:=open_rowN (d:=y0.1) (ps:=y0.2) t0 u0 c0 ⟨m,h0⟩;obtain ⟨ls,aa⟩:=m_3 (d:=y1.1) (ps:=y1.2) t1 he ce o0 o1 o2 k0 k1 k2 v0 v1 v2 ⟨m,h1⟩;exact ⟨a,n,c,z,R,L,J,ls,rfl,hz,aa⟩
end Go.Proofs.YtjlofobnmjompaaGreatDoor.Wd
namespace Go.Proofs.YtjlofobnmjompaaGreatDoor.Wd
open Go.ChangeShapes Go.WideShapes Go.ChangeAt Go.RowKit Go.Joins Go.Deep Fx
/-- A row of Go's numbers that is read. -/
def RowI (W:World) (p:Option Addr) (n c:Nat) (l:List Int):Prop:=Nums .i64 W (.slice p n c) l/\RI l/\n<=c
theorem RowN.rowI {W:World} {p:Option Addr} {n c:Nat} {z:Nat->Int} (h:RowN .i64 W p n c z):RowI W p n c (k_8 n z):=⟨h.nums,h.riI,h.1.1⟩
theorem RowI.up {W W':World} {p:Option Addr} {n c:Nat} {l:List Int} (h:RowI W p n c l) (D:Below W.heap.size W W'):RowI W' p n c l:=⟨h.1.up D,h.2⟩
/-- An example's three cells. -/
def ExAt (W:World) (q o:Nat) (e:Exm):Prop:=∃ p n c p2 n2 c2,W.cell? ⟨q,o,none⟩=some (.slice p n c)/\W.cell? ⟨q,o+1,none⟩=some (.slice p2 n2 c2)/\W.cell? ⟨q,o+2,none⟩=some (.int .i64 e.2.2)/\InR e.2.2/\RowI W p n c e.1/\RowI W p2 n2 c2 e.2.1
theorem ExAt.up {W W':World} {q o:Nat} {e:Exm} (h:ExAt W q o e) (D:Below W.heap.size W W'):ExAt W' q o e:=by
 obtain ⟨p,n,c,H,J,I,a,b,d,i,r,s⟩:=h;exact ⟨p,n,c,H,J,I,keep D a,keep D b,keep D d,i,r.up D,s.up D⟩
def ExR (W:World) (p:Option Addr) (n:Nat) (l:List Exm):Prop:=l.length=n/\∀ i,i < n->∃ q o,p=some ⟨q,o,none⟩/\ExAt W q (o+i*3) (exA l i)
theorem ExR.up {W W':World} {p:Option Addr} {n:Nat} {l:List Exm} (h:ExR W p n l) (D:Below W.heap.size W W'):ExR W' p n l:=⟨h.1,fun i H=>by
 obtain ⟨q,o,e,a⟩:=h.2 i H;exact ⟨q,o,e,a.up D⟩⟩
def ExsN (W:World) (p:Option Addr) (n c:Nat) (l:List Exm):Prop:=n<=c/\c<=9223372036854775807/\ExR W p n l
theorem s_m {W:World} {p:Option Addr} {n:Nat} (h:∀ i,i < n->∃ q o e,p=some ⟨q,o,none⟩/\ExAt W q (o+i*3) e):∃ l,ExR W p n l:=by
 have H:∀ i,∃ e:Exm,i < n->∃ q o,p=some ⟨q,o,none⟩/\ExAt W q (o+i*3) e:=fun i=>by
  by_cases D:i < n
  ·obtain ⟨q,o,e,J⟩:=h i D;exact ⟨e,fun _=>⟨q,o,J⟩⟩
  ·exact ⟨([],[],0),fun I=>absurd I D⟩
 obtain ⟨f,hf⟩:=Classical.axiomOfChoice H;refine ⟨(List.range n).map f,by simp,fun i D=>?_⟩
 have e:exA ((List.range n).map f) i=f i:=by
  unfold exA;rw [List.getD_eq_getElem?_getD,List.getElem?_map,List.getElem?_range D];rfl
 rw [e];exact hf i D
theorem open_exs {H:Type} {enc:TypeId×Value->H} {P:Program} {W:World} {t e e0 e1:TypeId} {f0 f1 f2:Field} {a:Option Addr} {n c:Nat} {d:DataW H} {ps:List MemPlace}
  (ht:P.underlying t=some (.slice e)) (he:P.underlying e=some (.struct #[f0,f1,f2])) (ce:P.cellsOf e=3)
  (o0:f0.offset=0) (o1:f1.offset=1) (o2:f2.offset=2) (c0:P.cellsOf f0.type=1) (c1:P.cellsOf f1.type=1) (c2:P.cellsOf f2.type=1)
  (s0:P.underlying f0.type=some (.slice e0)) (r0:P.underlying e0=some (.int .i64)) (k0:P.cellsOf e0=1)
  (s1:P.underlying f1.type=some (.slice e1)) (r1:P.underlying e1=some (.int .i64)) (k1:P.cellsOf e1=1)
  (u2:P.underlying f2.type=some (.int .i64))
  (h:DataW.Trod enc P W 0 (fun _=>true) true t (.slice a n c) d ps):∃ l,ExsN W a n c l:=by
 obtain ⟨fuel,hf⟩:=h;rcases open_slice ht hf with ⟨J,_⟩|⟨x,am,aq,m,fu,D,Pl,J,hb,hl,hm,ad,_,hx⟩
 ·simp [Value.cells] at J;obtain ⟨rfl,rfl,rfl⟩:=J;exact ⟨[],Nat.le_refl _,by omega,rfl,fun i hi=>by omega⟩
 ·simp [Value.cells] at J;obtain ⟨rfl,rfl,rfl⟩:=J
  have ak:∃ l,ExR W (some x) n l:=s_m fun i hi=>by
   have an:n<=m:=by rw [ad];split <;> omega
   obtain ⟨ao,h1,h2⟩:=hx i (by omega);rw [ce] at h1;obtain ⟨_,aa,I⟩:=World.cells?_some h1;obtain ⟨xs,fk,_,_,_,aj,M⟩:=DataW.trod_struct he h2;obtain ⟨y0,y1,y2,rfl⟩:=k_W aj;obtain ⟨v0,v1,v2,rfl⟩:=k_W aa;have t0:=M 0 f0 rfl;have t1:=M 1 f1 rfl;have t2:=M 2 f2 rfl;simp [o0,c0] at t0;simp [o1,c1] at t1;simp [o2,c2] at t2;obtain ⟨z2,R,_,w2⟩:=DataW.trod_int u2 t2;obtain ⟨pd,nd,cd,ed⟩:=slice_form s0 t0;obtain ⟨pv,nv,cv,ev⟩:=slice_form s1 t1;simp only [List.cons.injEq,and_true] at R ed ev;subst R ed ev;obtain ⟨zd,ag⟩:=open_rowN (d:=y0.1) (ps:=y0.2) s0 r0 k0 ⟨fk,t0⟩;obtain ⟨zv,ae⟩:=open_rowN (d:=y1.1) (ps:=y1.2) s1 r1 k1 ⟨fk,t1⟩;have ac:=I 0 (by omega);have ab:=I 1 (by omega);have V:=I 2 (by omega);rw [add_add] at ac ab V
   have ex:x=⟨x.block,x.off,none⟩:=by
    obtain ⟨au,U,_⟩:=hx 0 (by omega);rw [ce] at U;obtain ⟨_,O,L⟩:=World.cells?_some U;obtain ⟨ah,ap,ar,rfl⟩:=k_W O;have h0:=L 0 (by omega);rw [add_add,Nat.zero_mul] at h0;have ai:x.add (0+0)=x:=by simp [Addr.add]
    rw [ai] at h0;exact c_2 (v:=ah) (by simpa using h0)
   have hs:∀ j v,W.cell? (x.add j)=some v->x=⟨x.block,x.off,none⟩/\W.cell? ⟨x.block,x.off+j,none⟩=some v:=fun j v hv=>by
    rw [ex,a_u] at hv;exact ⟨ex,hv⟩
   have n0:=hs _ _ (by simpa using ac);refine ⟨x.block,x.off,(k_8 nd zd,k_8 nv zv,z2),by rw [<- n0.1],pd,nd,cd,pv,nv,cv,n0.2,?_,?_,bounds_i64 w2,ag.rowI,ae.rowI⟩
   ·rw [Nat.add_assoc];exact (hs _ _ (by simpa using ab)).2
   ·rw [Nat.add_assoc];exact (hs _ _ (by simpa using V)).2
  obtain ⟨l,af⟩:=ak;exact ⟨l,hl,by unfold maxLen at hm;omega,af⟩
/-- Wides that are read. -/
def WdR (W:World) (p:Option Addr) (n:Nat) (l:List Int):Prop:=l.length=n/\(∀ y,y∈l->InW y)/\∀ i,i < n->∃ q o,p=some ⟨q,o,none⟩/\W.cell? ⟨q,o+i*2,none⟩=some (.int .i64 (l.getD i 0 / 18446744073709551616))/\W.cell? ⟨q,o+i*2+1,none⟩=some (.int .u64 (l.getD i 0 % 18446744073709551616))
theorem WdR.up {W W':World} {p:Option Addr} {n:Nat} {l:List Int} (h:WdR W p n l) (D:Below W.heap.size W W'):WdR W' p n l:=⟨h.1,h.2.1,fun i H=>by
 obtain ⟨q,o,e,a,b⟩:=h.2.2 i H;exact ⟨q,o,e,keep D a,keep D b⟩⟩
end Go.Proofs.YtjlofobnmjompaaGreatDoor.Wd
namespace Go.Proofs.YtjlofobnmjompaaGreatDoor.Wd
open Go.RowKit
/-- A slice of layers of the call's own, by its elements' type. -/
def LyE (e:TypeId) (W:World) (B:Nat) (v:Value) (ls:List Ly):Prop:=W.ownsRow B e 3 v ls.length (ls.flatMap lyC)
theorem LyE.rd {e:TypeId} {W:World} {B:Nat} {v:Value} {ls:List Ly} (h:LyE e W B v ls):∃ p c,v = .slice p ls.length c/\LyR 0 W p ls.length ls:=by
 have R:=h;rcases h.2 with ⟨rfl,L⟩|⟨g,H,J,rfl,U,V,h6⟩
 ·exact ⟨none,0,by rw [L],rfl,fun i I=>by omega⟩
 ·refine ⟨_,H,rfl,rfl,fun i I=>?_⟩
  have D:∀ k,k < 3->∀ v,(lyC (lyA ls i))[k]?=some v->W.cell? ⟨g,0+i*3+k,none⟩=some v:=fun k O v M=>by
   have:=World.ownsRow.cells R rfl (i*3+k) v ((r_6 ls i k I O).trans M);rw [a_u,<- Nat.add_assoc] at this;exact this
  exact ⟨g,0,rfl,D 0 (by omega) _ rfl,D 1 (by omega) _ rfl,D 2 (by omega) _ rfl⟩
theorem t_p:GT Tryz.prog 73 113 3 32:=⟨Tryz.underlying73,by kernel_rfl⟩
theorem s_n (w:World) (a b c:Obj):(((w.alloc a).alloc b).alloc c).heap[w.heap.size]?=some a/\(((w.alloc a).alloc b).alloc c).heap[w.heap.size+1]?=some b/\(((w.alloc a).alloc b).alloc c).heap[w.heap.size+2]?=some c/\Below w.heap.size w (((w.alloc a).alloc b).alloc c):=by
 have J:(w.alloc a).heap.size=w.heap.size+1:=by simp
 have L:((w.alloc a).alloc b).heap.size=w.heap.size+2:=by simp
 have I:=heap_alloc_new w a;have D:=heap_alloc_new (w.alloc a) b;have H:=heap_alloc_new ((w.alloc a).alloc b) c;rw [J] at D;rw [L] at H;refine ⟨?_,?_,H,g_a (g_a (a_b _ _) _) _⟩
 ·rw [(a_b ((w.alloc a).alloc b) c).block _ (by omega),(a_b (w.alloc a) b).block _ (by omega)];exact I
 ·rw [(a_b ((w.alloc a).alloc b) c).block _ (by omega)];exact D
theorem o_I (ls:List Ly) (k:Nat) (D:k < ls.length):(ls.take (k+1)).flatMap lyC=(ls.take k).flatMap lyC++[.string (lyA ls k).1,.int .i64 (lyA ls k).2.1,.int .i64 (lyA ls k).2.2]:=by
 have e:lyA ls k=ls[k]:=by unfold lyA;rw [List.getD_eq_getElem?_getD,List.getElem?_eq_getElem D];rfl
 rw [List.take_succ_eq_append_getElem D,List.flatMap_append,e];simp [lyC]
theorem q_Y (p p2:Option Addr) (n c D c2:Nat) (ls:List Ly) (ax:D<=1073741823) (w:World) (hL:LyR 0 w p2 D ls):
  Calls Tryz.prog 28 #[.agg #[.slice p n c,.slice p2 D c2]] w fun e w'=>∃ p3 c3,e = .returned (.agg #[.slice p n c,.slice p3 D c3])/\LyE 113 w' w.heap.size (.slice p3 D c3) ls/\Below w.heap.size w w':=by
 haveI:Nonempty World:=⟨w⟩
 have HL:Hid (LyR 0 w p2 D ls):=hL;clear hL;go_enter Tryz.func28,Tryz.ntmps28;go_wp2_with fail
 generalize ac:World.alloc _ _=W0
 have HX:Hid (W0.heap[w.heap.size]?=some (.cells #[.slice p n c,.slice p2 D c2] 33 (0,0))/\W0.heap[w.heap.size+1]?=some (.cells #[.slice none 0 0,.slice none 0 0] 75 (0,0))/\W0.heap[w.heap.size+2]?=some (.cells #[.slice p n c,.slice none 0 0] 75 (0,0))/\Below w.heap.size w W0):=by
  rw [<- ac];exact s_n w _ _ _
 clear ac
 go_loopg [4] D (fun gg v wr=>∃ (k:Nat) (vL:Value),k<=D/\gg=D - k/\v = .int .i64 (k:Int)/\Hid (wr.heap[w.heap.size]?=some (.cells #[.slice p n c,.slice p2 D c2] 33 (0,0))/\wr.heap[w.heap.size+1]?=some (.cells #[.slice none 0 0,.slice none 0 0] 75 (0,0))/\wr.heap[w.heap.size+2]?=some (.cells #[.slice p n c,vL] 75 (0,0))/\Below w.heap.size w wr)/\Hid (wr.ownsRow w.heap.size 113 3 vL k ((ls.take k).flatMap lyC)))
 case atStart=>exact ⟨0,.slice none 0 0,by omega,by omega,rfl,HX,⟨rfl,.inl ⟨rfl,rfl⟩⟩⟩
 case round=>
  obtain ⟨k,vL,hk,hg,rfl,I,H⟩:=hrel
  obtain ⟨L,M,rfl⟩:∃ L M,vL = .slice L k M:=by
   rcases H.out.2 with ⟨rfl,h0⟩|⟨g,aB,az,rfl,_⟩
   ·exact ⟨none,0,by rw [h0]⟩
   ·exact ⟨_,_,rfl⟩
  obtain ⟨⟨b0,_⟩,⟨b1,_⟩⟩:=e_n I.out.1;have aE:=a_f b1;by_cases ab:k < D
  ·have aC:(k:Int) < (D:Int):=by omega
   obtain ⟨q,o,rfl,c0,c1,ap⟩:=(HL.out.up I.out.2.2.2).2 k ab;have ad:k < ls.length:=by rw [HL.out.1];exact ab
   obtain ⟨l,el⟩:∃ l,lyA ls k=l:=⟨_,rfl⟩
   obtain ⟨s,a,b⟩:=l
   have HT:Hid ((ls.take (k+1)).flatMap lyC=(ls.take k).flatMap lyC++[.string s,.int .i64 a,.int .i64 b]):=by
    have:=o_I ls k ad;rw [el] at this;exact this
   rw [el] at c0 c1 ap;have aD:=a_f c0;have ao:Hid (∀ z,Value.ownBlock (.slice L k M)=some z->z < wr.heap.size):=fun z an=>(World.ownsRow.lt H.out z an).2;have ag:Hid (w.heap.size<=wr.heap.size):=I.out.2.2.2.size;have HG:Hid (∀ W,wr.grownBy W (Value.ownBlock (.slice L k M))->Only [113] wr W/\Below w.heap.size w W):=fun W hW=>⟨g_r H.out hW,Below.grown I.out.2.2.2 hW ag.out fun k hk=>(World.ownsRow.lt H.out k hk).1⟩
   have HQ:Hid (∀ W,wr.grownBy W (Value.ownBlock (.slice L k M))->W.cell? ⟨w.heap.size+2,1,none⟩=some (.slice L k M)/\W.cell? ⟨w.heap.size,1,none⟩=some (.slice (some ⟨q,o,none⟩) D c2)/\W.cell? ⟨q,o+k*3,none⟩=some (.string s)/\W.cell? ⟨q,o+k*3+1,none⟩=some (.int .i64 a)/\W.cell? ⟨q,o+k*3+2,none⟩=some (.int .i64 b)):=fun W hW=>by
    obtain ⟨h1,h2⟩:=HG.out W hW;obtain ⟨q',o',e,d0,d1,d2⟩:=(HL.out.up h2).2 k ab;cases e;rw [el] at d0 d1 d2;exact ⟨(e_n (h1.keep I.out.2.2.1 (by decide))).2.1,(e_n (h1.keep I.out.1 (by decide))).2.1,d0,d1,d2⟩
   clear el;go_wp2;refine d_O (by kernel_rfl) ?_;refine seg (fun q W=>match q with|false=>Below wr.heap.size wr W|true=>wr.grownBy W (Value.ownBlock (.slice L k M))) (fun W W'=>W.grownBy W' (Value.ownBlock (.slice L k M))) 22 [⟨21,36,LitS 113 wr.heap.size [.string s,.int .i64 a,.int .i64 b]⟩,⟨22,37,OwnG 113 3 w.heap.size (k+1) (((ls.take k).flatMap lyC)++[.string s,.int .i64 a,.int .i64 b])⟩] 0 24 40 rfl rfl (by kernel_rfl) (by rfl) ?_ ?_ ?_ ?_ ?_ ?_
   ·intro q W W' h hb;cases q
    ·exact a_c h hb
    ·exact g_N h hb
   ·exact ⟨rfl,rfl,rfl,Nat.le_refl _,fun _ _=>rfl⟩
   ·exact .inl ⟨_,List.mem_cons_of_mem _ List.mem_cons_self,rfl⟩
   ·intro e he v W W' h hb;simp only [List.mem_cons,List.not_mem_nil,or_false] at he;rcases he with rfl|rfl
    ·exact LitS.up h hb
    ·exact OwnG.up h hb
   ·intro e he ar v W W' h hc ht;simp only [List.mem_cons,List.not_mem_nil,or_false] at he;rcases he with rfl|rfl
    ·exact LitS.grown h ht ao.out
    ·exact absurd rfl ar
   apply Exists.intro;refine ⟨fun x=>?_,?_,?_⟩
   ·simp only [List.drop_succ_cons,List.drop_zero,List.take_succ_cons,List.take_zero]
    iterate 21
     refine b_Q rfl rfl ?_;apply Exists.intro;refine ⟨fun b' F hF hf K hK=>?_,?_⟩
     ·have hFc:=hF.cls
      have q:=fun d=>HQ.out (F d) (by
       cases b'
       ·exact b_d _ (hFc d)
       ·exact hFc d)
      have q1:=fun d=>(q d).1;have q2:=fun d=>(q d).2.1;have q3:=fun d=>(q d).2.2.1;have q4:=fun d=>(q d).2.2.2.1;have q5:=fun d=>(q d).2.2.2.2;clear hFc q
      go_big_quiet_op
      first|exact hK|(apply Exists.intro;refine ⟨fun _=>?_,?_⟩;(· fail);exact hK)
     (try simp only [Act.put,sA_,sB_,sC_])
    refine i_G rfl (by decide) rfl ?_ ?_
    ·intro b' F hF hf d;have hFc:=hF.cls
     have ae:wr.heap.size<=(F d).heap.size:=by
      cases b'
      ·exact (hFc d).size
      ·exact (hFc d).size
     simp [a_k,a_g,go_sem];exact ⟨⟨(F d).heap.size,rfl,heap_alloc_new (F d) _,ae⟩,a_b _ _⟩
    (try simp only [Act.put,sA_,sB_,sC_])
    refine i_H rfl rfl rfl ?_ ?_
    ·intro W hW hf;have h7:=hf _ List.mem_cons_self (by rfl) W;obtain ⟨g7,e7,ak,_⟩:=h7;simp only [] at e7;obtain ⟨R,V,w8,av,am,aa⟩:=r_7 t_p (by decide) (by decide) 73 W w.heap.size (.slice L k M) k ((ls.take k).flatMap lyC) (a_A (S:=[]) H.out (Only.of hW) (by simp)) g7 [.string s,.int .i64 a,.int .i64 b] ak rfl (fun x hx=>by simp at hx;rcases hx with rfl|rfl|rfl <;> rfl) (by omega) (Nat.le_trans ag.out (Below.size hW));simp [d_f,c_A,execOp,resolve,invoke,builtin,Act.eval,e7,av,Result.andThen];exact ⟨⟨R,V,rfl,am⟩,d_N (b_d _ hW) aa,aa⟩
    (try simp only [Act.put,sA_,sB_,sC_])
    refine b_Q rfl rfl ?_;apply Exists.intro;refine ⟨fun b' F hF hf K hK=>?_,?_⟩
    ·have hFc:=hF.cls
     have q:=fun d=>HQ.out (F d) (by
      cases b'
      ·exact b_d _ (hFc d)
      ·exact hFc d)
     have q1:=fun d=>(q d).1;have q2:=fun d=>(q d).2.1;have q3:=fun d=>(q d).2.2.1;have q4:=fun d=>(q d).2.2.2.1;have q5:=fun d=>(q d).2.2.2.2;clear hFc q
     go_big_quiet_op
     first|exact hK|(apply Exists.intro;refine ⟨fun _=>?_,?_⟩;(· fail);exact hK)
    (try simp only [Act.put,sA_,sB_,sC_])
    refine m_o ?_;exact rfl
   ·exact fun x=>rfl
   ·intro w8 ai af ah;refine f_H 24 (by kernel_rfl) ?_;simp only [List.drop_succ_cons,List.drop_zero];have h8:=ah _ (List.mem_cons_of_mem _ List.mem_cons_self);obtain ⟨x5,e5⟩:∃ z,ai 21=z:=⟨_,rfl⟩
    obtain ⟨x6,e6⟩:∃ z,ai 22=z:=⟨_,rfl⟩
    simp only [e6] at h8;simp only [e5,e6];obtain ⟨R,V,rfl,h8⟩:=h8;have J:=HG.out w8 af;have O:=J.1.keep I.out.2.2.1 (by decide);obtain ⟨_,⟨r0,r1⟩⟩:=e_n O
    have HF:Hid ((w8.setCell ⟨w.heap.size+2,1,none⟩ (.slice (some ⟨R,0,none⟩) (k+1) V)).heap[w.heap.size]?=some (.cells #[.slice p n c,.slice (some ⟨q,o,none⟩) D c2] 33 (0,0))/\(w8.setCell ⟨w.heap.size+2,1,none⟩ (.slice (some ⟨R,0,none⟩) (k+1) V)).heap[w.heap.size+1]?=some (.cells #[.slice none 0 0,.slice none 0 0] 75 (0,0))/\(w8.setCell ⟨w.heap.size+2,1,none⟩ (.slice (some ⟨R,0,none⟩) (k+1) V)).heap[w.heap.size+2]?=some (.cells #[.slice p n c,.slice (some ⟨R,0,none⟩) (k+1) V] 75 (0,0))/\Below w.heap.size w (w8.setCell ⟨w.heap.size+2,1,none⟩ (.slice (some ⟨R,0,none⟩) (k+1) V))):=by
     refine ⟨?_,?_,?_,J.2.setCell (p:=⟨w.heap.size+2,1,none⟩) (Nat.le_add_right _ _) _⟩
     ·rw [a_T _ _ _ _ _ (by omega)];exact J.1.keep I.out.1 (by decide)
     ·rw [a_T _ _ _ _ _ (by omega)];exact J.1.keep I.out.2.1 (by decide)
     ·rw [a_m O];rfl
    have aq:Hid ((w8.setCell ⟨w.heap.size+2,1,none⟩ (.slice (some ⟨R,0,none⟩) (k+1) V)).ownsRow w.heap.size 113 3 (.slice (some ⟨R,0,none⟩) (k+1) V) (k+1) ((ls.take (k+1)).flatMap lyC)):=by
     show World.ownsRow _ _ _ _ _ _ _;rw [HT.out];exact a_A (S:=[75]) h8 (Only.set O (by simp)) (by decide)
    clear J O h8 ah af e5 e6;go_wp2;go_roundg (D - (k+1))
    case measure=>omega
    case rel=>exact ⟨k+1,_,by omega,rfl,by first|rfl|simp,HF,aq⟩
  ·obtain rfl:k=D:=by omega
   obtain ⟨⟨d0,ay⟩,⟨d1,aA⟩⟩:=e_n I.out.2.1;obtain ⟨⟨f0,_⟩,⟨f1,_⟩⟩:=e_n I.out.2.2.1;have kd:=a_f d0;have kf:=a_f f0;go_wp2;generalize hU:World.setCell _ _ _=U;obtain ⟨u0,u1,au,aw⟩:=q_N I.out.2.1 hU
   have aj:LyE 113 U w.heap.size (.slice L k M) ls:=by
    have:=a_A H.out aw (by decide);rw [List.take_of_length_le (by rw [HL.out.1];exact Nat.le_refl _)] at this;unfold LyE;rw [HL.out.1];exact this
   exact bodyPost_ret (v:=.agg #[.slice p n c,.slice L k M]) (by simp [results,Tryz.results28,go_sem,u0,u1]) rfl ⟨_,_,rfl,aj,au w _ (by omega) I.out.2.2.2⟩
end Go.Proofs.YtjlofobnmjompaaGreatDoor.Wd
