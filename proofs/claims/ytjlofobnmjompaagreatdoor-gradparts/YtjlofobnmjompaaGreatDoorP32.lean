/- The code's Run. · Gradients of examples: -/
import Derived.Test.YtjlofobnmjompaaGreatDoorP31
import Derived.Lib.SmallJoins
import Derived.Deep.Slices
import Derived.ChangeSame
set_option linter.unusedVariables false
set_option linter.unusedSimpArgs false
set_option maxHeartbeats 16000000
set_option maxRecDepth 16000
namespace Go.Proofs.YtjlofobnmjompaaGreatDoor.Wd
open Go.RowKit Fx
theorem i_1 {sts:List Sp} {i:Nat} (h:i < sts.length):spA sts i∈sts:=by
 unfold spA;rw [List.getD_eq_getElem?_getD,List.getElem?_eq_getElem h];exact List.getElem_mem h
theorem RI.nil:RI []:=fun y h=>by simp at h
theorem RI.takes {l:List Int} (h:RI l) (n:Nat):RI (l.take n):=fun y D=>h y (List.mem_of_mem_take D)
theorem RI.drops {l:List Int} (h:RI l) (n:Nat):RI (l.drop n):=fun y D=>h y (List.mem_of_mem_drop D)
theorem m_2 {op a b k:Int} (D:1<=op/\op<=14) (H:0<=a/\a<=1000) (hb:0<=b/\b<=1000) (E:0<=k/\k<=1000):SpOk (spD op a b k):=⟨H,hb,E,D,RI.nil,RI.nil⟩
theorem p_p {D X:List Int} {q:Bool} (E:RI D) (H:RI X):SpOk ⟨1,0,0,0,D,X,q⟩:=⟨show (0:Int)<=0/\(0:Int)<=1000 by omega,show (0:Int)<=0/\(0:Int)<=1000 by omega,show (0:Int)<=0/\(0:Int)<=1000 by omega,show (1:Int)<=1/\(1:Int)<=14 by omega,E,H⟩
theorem s_a {l:Ly} {d:List Int} (L:a_S l) (I:InOk d):∀ j,RI (shA (c_t l d) j):=fun j=>by
 have M:=I.prod;have J:0<=d.getD 0 0/\d.getD 0 0<=1024:=by rcases I with ⟨x,rfl,h⟩|⟨x,y,rfl,O,D⟩ <;> simp <;> omega
 unfold c_t;rcases a_K L with ⟨-,k,E,H⟩|⟨-,k,E,H⟩|⟨-,k,E,H⟩|⟨-,k,E,H⟩|⟨-,k,E,H⟩ <;> rw [k]
 ·match j with
  | 0=>intro y D;simp [shA] at D;omega
  | 1=>intro y D;simp [shA] at D;omega
  | j+2=>intro y D;simp [shA] at D
 ·match j with
  | 0=>intro y D;simp [shA] at D;simp at J;omega
  | j+1=>intro y D;simp [shA] at D
 all_goals intro y D;simp [shA] at D
theorem p_q {PP:List (List Int)} {rest:List Int} (H:∀ j,RI (shA PP j)) (D:RI rest):∀ j,(∀ st,st∈(prS PP rest j).1->SpOk st)/\RI (prS PP rest j).2
 | 0=>⟨fun st h=>by simp [prS] at h,D⟩
 | j+1=>by
  obtain ⟨I,E⟩:=p_q H D j;refine ⟨fun st h=>?_,E.drops _⟩;simp only [prS,List.mem_append,List.mem_cons,List.not_mem_nil,or_false] at h;rcases h with h|rfl
  ·exact I st h
  ·exact p_p (H j) (E.takes _)
theorem q_T {l:Ly} {d:List Int} (J:a_S l) (R:InOk d) {N:Nat} (V:N<=200) {rest:List Int} (O:RI rest) {I D:Int} (hb:0<=I/\I<=300) (U:0<=D/\D<=300):(∀ st,st∈f_P l d N rest I D->SpOk st)/\RI (i_a l d rest)/\k_U l d N<=N+5:=by
 obtain ⟨M,L⟩:=p_q (s_a J R) O (c_t l d).length;refine ⟨fun st h=>?_,L,?_⟩
 ·unfold f_P at h;rw [List.mem_append] at h;rcases h with h|h
  ·exact M st h
  ·rcases a_K J with ⟨-,k,E,H⟩|⟨-,k,E,H⟩|⟨-,k,E,H⟩|⟨-,k,E,H⟩|⟨-,k,E,H⟩ <;> rw [k] at h
   ·simp only [if_true] at h;unfold n_v at h
    split at h <;> simp only [List.mem_cons,List.not_mem_nil,or_false] at h
    ·rcases h with rfl|rfl|rfl|rfl <;> refine m_2 ?_ ?_ ?_ ?_ <;> omega
    ·rcases h with rfl|rfl|rfl <;> refine m_2 ?_ ?_ ?_ ?_ <;> omega
   all_goals
    simp at h;subst h;refine m_2 ?_ ?_ ?_ ?_ <;> omega
 ·unfold k_U r_c
  split
  ·split <;> omega
  ·split <;> omega
theorem m_3 {d:List Int} {ls:List Ly} {S:List (List Int)} {P X:List Int} (E:NetOk d ls S) (D:ls.length<=16) (L:RI d) (J:RI P) (I:RI X):∀ i,i<=ls.length->(∀ st,st∈(plF d ls S P X i).1->SpOk st)/\RI (plF d ls S P X i).2.1/\(0<=(plF d ls S P X i).2.2.1/\(plF d ls S P X i).2.2.1<=300)/\0<=(plF d ls S P X i).2.2.2/\(plF d ls S P X i).2.2.2<=300
 | 0,_=>by
  refine ⟨fun st h=>?_,J,by simp [plF],by simp [plF],by simp [plF]⟩;simp only [plF,List.mem_cons,List.not_mem_nil,or_false] at h;subst h;exact p_p L I
 | i+1,hi=>by
  obtain ⟨O,M,R,H⟩:=m_3 E D L J I i (by omega);have hN:=g_7 d ls S P X i;obtain ⟨U,V,g3⟩:=q_T (E.lay i (by omega)) (E.inn i (by omega)) (N:=(plF d ls S P X i).1.length) (by omega) M R H;refine ⟨fun st h=>?_,V,H,?_,?_⟩
  ·simp only [plF,List.mem_append] at h;rcases h with h|h
   ·exact O st h
   ·exact U st h
  ·simp only [plF];omega
  ·simp only [plF];omega
/-- What Run makes: an error, the nodes, the last one, the parameters' nodes. -/
def rnF (d:List Int) (ls:List Ly) (ns:List Nd) (P X:List Int):Int×List Nd×Int×List Int:=
 if nE d ls=0 then
  if (P.length:Int)=b_5 ls (nS d ls) ls.length/\(X.length:Int)=a_t d then
   if ns.length+(plF d ls (nS d ls) P X ls.length).1.length<=512 then
    ((pyF ns.length (plF d ls (nS d ls) P X ls.length).1 ns (plF d ls (nS d ls) P X ls.length).1.length).1,(pyF ns.length (plF d ls (nS d ls) P X ls.length).1 ns (plF d ls (nS d ls) P X ls.length).1.length).2.1,(if (pyF ns.length (plF d ls (nS d ls) P X ls.length).1 ns (plF d ls (nS d ls) P X ls.length).1.length).1=0 then (pyF ns.length (plF d ls (nS d ls) P X ls.length).1 ns (plF d ls (nS d ls) P X ls.length).1.length).2.2.1 else 0),(if (pyF ns.length (plF d ls (nS d ls) P X ls.length).1 ns (plF d ls (nS d ls) P X ls.length).1.length).1=0 then (pyF ns.length (plF d ls (nS d ls) P X ls.length).1 ns (plF d ls (nS d ls) P X ls.length).1.length).2.2.2 else []))
   else (2,ns,0,[])
  else (1,ns,0,[])
 else (nE d ls,ns,0,[])
theorem TapC.rn {B H D:Nat} {W W':World} {ns:List Nd} (h:TapC W B D ns) (E:Rn H W W'):TapC W' B D ns:=Tap.only h E.onl (by decide) (by decide) (by decide) (by decide)
theorem InOk.ri {d:List Int} (h:InOk d):RI d:=by
 rcases h with ⟨x,rfl,h⟩|⟨x,y,rfl,H,E⟩ <;> intro z D <;> simp at D <;> omega
theorem q_U (B tb:Nat) (ns:List Nd) (hG:NodesG ns) (aO:ns.length<=512) (d:List Int) (ls:List Ly) (P X:List Int) (hP:RI P) (hX:RI X) (aX:nE d ls=0->∀ st,st∈(plF d ls (nS d ls) P X ls.length).1->st.op≠1->RkC st.op) (p p2 pp px:Option Addr) (n c n2 c2 np cp nx cx:Nat) (ak:n2<=1073741823) (aU:P.length<=1073741824) (w:World) (hT:TapC w B tb ns) (a2:Hid (∀ W,Below B w W->Tz W)) (aN:Hid (Kz w)) (aB:Kept B w (.slice p n c) d) (aD:∀ W',Rn B w W'->LyR 0 W' p2 n2 ls) (hp:Kept B w (.slice pp np cp) P) (aL:np<=cp) (hx:Kept B w (.slice px nx cx) X):
  Calls Tryz.prog 22 #[.pointer (some ⟨tb,0,none⟩),.agg #[.slice p n c,.slice p2 n2 c2],.slice pp np cp,.slice px nx cx] w fun e w'=>∃ v,e = .returned (.tuple #[.int .i64 (rnF d ls ns P X).2.2.1,v,.int .i64 (rnF d ls ns P X).1])/\OwnK .i64 3 w' w.heap.size v (rnF d ls ns P X).2.2.2/\TapC w' B tb (rnF d ls ns P X).2.1/\Below B w w':=by
 haveI:Nonempty World:=⟨w⟩
 have aT:B<=w.heap.size:=by
  obtain ⟨hb,_,_,hv,_⟩:=hT;exact Nat.le_trans hb (Nat.le_of_lt (a_i hv))
 obtain ⟨I,aE⟩:∃ R,rnF d ls ns P X=R:=⟨_,rfl⟩
 obtain ⟨E,eE⟩:∃ E,nE d ls=E:=⟨_,rfl⟩
 obtain ⟨M,eS⟩:∃ S,nS d ls=S:=⟨_,rfl⟩
 obtain ⟨sl,aH⟩:∃ sl,M.length=sl:=⟨_,rfl⟩
 have aW:P.length=np:=by
  obtain ⟨_,_,_,e,h⟩:=hp.nums.lst;cases e;exact h.out.1
 have aK:X.length=nx:=by
  obtain ⟨_,_,_,e,h⟩:=hx.nums.lst;cases e;exact h.out.1
 have H:Hid (rnF d ls ns P X=I/\nE d ls=E/\nS d ls=M/\M.length=sl/\P.length=np/\X.length=nx):=⟨aE,eE,eS,aH,aW,aK⟩
 have cS:Hid (∀ W,Below w.heap.size w W->Calls Tryz.prog 36 #[.agg #[.slice p n c,.slice p2 n2 c2]] W fun e w'=>∃ ps cs,e = .returned (.tuple #[.slice ps sl cs,.int .i64 E])/\OwnS w' W.heap.size (.slice ps sl cs) M/\Below W.heap.size W w'):=fun W hW=>by
  have:=g_q p p2 n c n2 c2 d ls ak W (Hid.up_kz aN hW) (aB.nums.up hW) ((aD w (Rn.refl _ _)).up hW);rw [eE,eS,aH] at this;exact this
 have J:Hid (B<=w.heap.size/\TapC w B tb ns/\NodesG ns/\ns.length<=512/\Kept B w (.slice p n c) d/\(∀ W',Rn B w W'->LyR 0 W' p2 n2 ls)/\Kept B w (.slice pp np cp) P/\np<=cp/\Kept B w (.slice px nx cx) X/\P.length<=1073741824/\RI P/\RI X/\n2<=1073741823):=⟨aT,hT,hG,aO,aB,aD,hp,aL,hx,aU,hP,hX,ak⟩
 have aS:Hid (E=0->∀ st,st∈(plF d ls M P X ls.length).1->st.op≠1->RkC st.op):=by
  show _->_;rw [<- eE,<- eS];exact aX
 rw [aE];clear aE eE eS aH aW aK aB aD hp aL hx aU hP hX hT hG aO aX aN aT ak;go_enter Tryz.func22,Tryz.ntmps22;go_wp2_with fail
 generalize ax:World.alloc _ _=W0;have aR:Hid (Below w.heap.size w W0):=by rw [<- ax];exact a_b w _
 obtain ⟨g0,g1⟩:W0.cell? ⟨w.heap.size,0,none⟩=some (.slice p n c)/\W0.cell? ⟨w.heap.size,1,none⟩=some (.slice p2 n2 c2):=by rw [<- ax];simp [go_sem]
 clear ax;refine (cS.out W0 aR.out).mono ?_;rintro e w1 ⟨ps,cs,rfl,ao,am⟩;have aq:Hid (Below w.heap.size w w1):=a_c aR.out am;replace g0:=a_h am g0;replace g1:=a_h am g1;by_cases h0:E=0
 case neg=>
  have a7:(E != 0)=true:=by simpa using h0
  have V:Hid (∃ v,Ending.returned (.tuple #[.int .i64 0,.slice none 0 0,.int .i64 E]) = .returned (.tuple #[.int .i64 I.2.2.1,v,.int .i64 I.1])/\OwnK .i64 3 w1 w.heap.size v I.2.2.2/\TapC w1 B tb I.2.1/\Below B w w1):=by
   have h5:I=(E,ns,0,[]):=by
    rw [<- H.out.1];unfold rnF;rw [H.out.2.1,if_neg h0]
   show ∃ _,_;rw [h5];exact ⟨_,rfl,OwnK.nil _ _ _ _,J.out.2.1.up aq.out,aq.out.mono J.out.1⟩
  clear ao am cS H;go_wp2;exact bodyPost_ret (v:=.tuple #[.int .i64 0,.slice none 0 0,.int .i64 E]) (by simp [results,Tryz.results22,go_sem]) rfl V.out
 subst h0;obtain ⟨S,hf,hs,ht⟩:=e_Z H.out.2.1;obtain ⟨_,h4,h5⟩:=k_O hf hs ht;rw [H.out.2.2.1] at h4;subst h4;obtain ⟨p',c',e',aJ⟩:=ao.rd;cases e';have L:Hid (NetOk d ls M/\InOk d/\ls.length<=16):=⟨NetOk.of hf hs,((c_f d ls).1 hf).1,by unfold e_N at ht;simp at ht;omega⟩
 have cc:=c_g p p2 ps n c n2 c2 _ cs d ls M L.out.1 (by have:=J.out.2.2.2.2.2.2.2.2.2.2.2.2;omega) w1 ((J.out.2.2.2.2.2.1 w (Rn.refl _ _)).up aq.out) aJ;obtain ⟨ct,aC⟩:∃ ct,b_5 ls M ls.length=ct:=⟨_,rfl⟩
 rw [aC] at cc;have aQ:Hid (OwnS w1 W0.heap.size (.slice ps M.length cs) M):=ao;clear ao am hf hs ht h5 aJ cS;go_wp2_with fail
 refine cc.mono ?_;rintro e w2 ⟨rfl,ah⟩;have af:Hid (Below w.heap.size w w2):=a_c aq.out ah;have au:Hid (OwnS w2 0 (.slice ps M.length cs) M):=(aQ.out.up ah).low (Nat.zero_le _);replace g0:=a_h ah g0;replace g1:=a_h ah g1;have ai:Hid (b_5 ls M ls.length=ct):=aC;have kg:=a_g g0;clear ah cc aQ aC
 have ag:Hid (¬ ((P.length:Int)=ct/\(X.length:Int)=a_t d)->∀ W,Below w.heap.size w W->∃ v,Ending.returned (.tuple #[.int .i64 0,.slice none 0 0,.int .i64 1]) = .returned (.tuple #[.int .i64 I.2.2.1,v,.int .i64 I.1])/\OwnK .i64 3 W w.heap.size v I.2.2.2/\TapC W B tb I.2.1/\Below B w W):=fun a1 W hW=>by
  have h5:I=(1,ns,0,[]):=by
   rw [<- H.out.1];unfold rnF;rw [H.out.2.1,H.out.2.2.1,ai.out,if_pos rfl,if_neg a1]
  rw [h5];exact ⟨_,rfl,OwnK.nil _ _ _ _,J.out.2.1.up hW,hW.mono J.out.1⟩
 by_cases ac:(np:Int)=ct
 case neg=>
  have aM:((np:Int) != ct)=true:=by simpa using ac
  have V:Hid _:=ag.out (fun h=>ac (by rw [<- H.out.2.2.2.2.1];exact h.1)) w2 af.out;clear ag ac;go_wp2;exact bodyPost_ret (v:=.tuple #[.int .i64 0,.slice none 0 0,.int .i64 1]) (by simp [results,Tryz.results22,go_sem]) rfl V.out
 have aM:((np:Int) != ct)=false:=by simpa using ac
 have cz:=d_j (.slice p n c) d L.out.2.1.smal w2 (J.out.2.2.2.2.1.nums.up af.out);obtain ⟨pd,az⟩:∃ x,a_t d=x:=⟨_,rfl⟩
 rw [az] at cz;have U:Hid (a_t d=pd/\(np:Int)=ct):=⟨az,ac⟩
 clear az ac;go_wp2_with fail
 refine cz.mono ?_;rintro e w3 ⟨rfl,rfl⟩;clear cz;by_cases ae:(nx:Int)=pd
 case neg=>
  have aP:((nx:Int) != pd)=true:=by simpa using ae
  have V:Hid _:=ag.out (fun h=>ae (by rw [<- H.out.2.2.2.2.2,<- U.out.1];exact h.2)) w3 af.out;clear ag ae;go_wp2;exact bodyPost_ret (v:=.tuple #[.int .i64 0,.slice none 0 0,.int .i64 1]) (by simp [results,Tryz.results22,go_sem]) rfl V.out
 have aP:((nx:Int) != pd)=false:=by simpa using ae
 have ay:Hid ((nx:Int)=pd):=ae;clear ae ag;have ad:Hid (Rn B w w3):=Rn.of J.out.1 af.out;have aw:=k_V B d ls M L.out.1 L.out.2.2 P X (by rw [H.out.2.2.2.2.1,ai.out];exact U.out.2) J.out.2.2.2.2.2.2.2.2.2.1 p p2 ps pp px n c n2 c2 M.length cs np cp nx cx w3 (Nat.le_trans J.out.1 af.out.size) (J.out.2.2.2.2.1.up ad.out) (fun W' a4=>J.out.2.2.2.2.2.1 W' (ad.out.trans a4)) au.out rfl (J.out.2.2.2.2.2.2.1.up ad.out) J.out.2.2.2.2.2.2.2.1 (J.out.2.2.2.2.2.2.2.2.1.up ad.out);have ar:=g_7 d ls M P X ls.length;have aj:=(m_3 L.out.1 L.out.2.2 L.out.2.1.ri J.out.2.2.2.2.2.2.2.2.2.2.1 J.out.2.2.2.2.2.2.2.2.2.2.2.1 (P:=P) (X:=X) ls.length (Nat.le_refl _)).1;obtain ⟨sts,ab⟩:∃ z,(plF d ls M P X ls.length).1=z:=⟨_,rfl⟩
 rw [ab] at aw ar aj;have O:Hid ((plF d ls M P X ls.length).1=sts/\sts.length<=97/\(∀ st,st∈sts->SpOk st)/\(∀ st,st∈sts->st.op≠1->RkC st.op)):=⟨ab,by have:=L.out.2.2;omega,aj,by have:=aS.out (by trivial);rw [ab] at this;exact this⟩
 clear ar aj ab au;go_wp2_with fail
 refine aw.mono ?_;rintro e w4 ⟨q,m,r,xs,rfl,hm,av,aY,aF⟩;have HM:Hid (sts.length=m/\w4.ownsRow B 129 7 (.slice q m r) m xs/\StsC B w4 sts xs/\Rn B w w4):=⟨hm,av,aY,ad.out.trans aF⟩
 have a6:m<=97:=by rw [<- hm];exact O.out.2.1
 have ap:Hid (TapC w4 B tb ns):=(J.out.2.1.up af.out).rn aF;have aG:=d_D B tb ns w4 ap.out;obtain ⟨nl,an⟩:∃ nl,ns.length=nl:=⟨_,rfl⟩
 have a5:nl<=512:=by rw [<- an];exact J.out.2.2.2.1
 rw [an] at aG;have aV:Hid (ns.length=nl):=an;clear aw hm av aY aF an g0 g1 kg ad;go_wp2_with fail
 refine aG.mono ?_;rintro e w5 ⟨rfl,rfl⟩;clear aG;by_cases aa:nl+m<=512
 case neg=>
  have aA:(512:Int) < (nl:Int)+(m:Int):=by omega
  have V:Hid (∃ v,Ending.returned (.tuple #[.int .i64 0,.slice none 0 0,.int .i64 2]) = .returned (.tuple #[.int .i64 I.2.2.1,v,.int .i64 I.1])/\OwnK .i64 3 w5 w.heap.size v I.2.2.2/\TapC w5 B tb I.2.1/\Below B w w5):=by
   have h5:I=(2,ns,0,[]):=by
    rw [<- H.out.1];unfold rnF;rw [H.out.2.1,H.out.2.2.1,ai.out,if_pos rfl,if_pos ⟨by rw [H.out.2.2.2.2.1];exact U.out.2,by rw [H.out.2.2.2.2.2,U.out.1];exact ay.out⟩,O.out.1,HM.out.1,aV.out,if_neg aa]
   show ∃ _,_;rw [h5];exact ⟨_,rfl,OwnK.nil _ _ _ _,ap.out,HM.out.2.2.2.bel⟩
  clear H O HM aa;go_wp2;exact bodyPost_ret (v:=.tuple #[.int .i64 0,.slice none 0 0,.int .i64 2]) (by simp [results,Tryz.results22,go_sem]) rfl V.out
 have aA:¬ (512:Int) < (nl:Int)+(m:Int):=by omega
 have a3:(nl:Int)+(m:Int)<=512:=by omega
 have aZ:=o_K B tb ns J.out.2.2.1 sts (fun i hi=>⟨O.out.2.2.1 _ (i_1 hi),O.out.2.2.2 _ (i_1 hi)⟩) (by have:=O.out.2.1;omega) J.out.2.2.2.1 q m r B xs HM.out.1 w5 ap.out (by show ∀ W,_;intro W hW;exact a2.out W (HM.out.2.2.2.bel.trans hW)) HM.out.2.1 HM.out.2.2.1
 have aI:Hid (I=((pyF ns.length sts ns m).1,(pyF ns.length sts ns m).2.1,(if (pyF ns.length sts ns m).1=0 then (pyF ns.length sts ns m).2.2.1 else 0),(if (pyF ns.length sts ns m).1=0 then (pyF ns.length sts ns m).2.2.2 else []))):=by
  show _=_;rw [<- H.out.1];unfold rnF;rw [H.out.2.1,H.out.2.2.1,ai.out,if_pos rfl,if_pos ⟨by rw [H.out.2.2.2.2.1];exact U.out.2,by rw [H.out.2.2.2.2.2,U.out.1];exact ay.out⟩,O.out.1,HM.out.1,if_pos (by rw [aV.out];exact aa)]
 have a0:Calls Tryz.prog 41 #[.pointer (some ⟨tb,0,none⟩),.slice q m r] w5 fun e w'=>∃ v,e = .returned (.tuple #[.int .i64 I.2.2.1,v,.int .i64 I.1])/\OwnK .i64 3 w' w.heap.size v I.2.2.2/\TapC w' B tb I.2.1/\Below B w w':=by
  refine aZ.mono ?_;rintro e w' ⟨v,h1,h2,h3,h4,_⟩;rw [aI.out];exact ⟨v,h1,h2.low HM.out.2.2.2.size,h3,HM.out.2.2.2.bel.trans h4⟩
 clear aZ aI O H HM aa J U ay ai L ap aS;go_wp2_with fail
 refine a0.mono ?_;rintro e w6 ⟨v6,rfl,h6⟩;have HF:Hid _:=h6;clear h6 a0;go_wp2;exact bodyPost_ret (v:=.tuple #[.int .i64 I.2.2.1,v6,.int .i64 I.1]) (by simp [results,Tryz.results22,go_sem]) rfl ⟨_,rfl,HF.out⟩
theorem NodesV.st {f:Int} {ns:List Nd} {st:Sp} (h:NodesV ns):NodesV (stN f ns st):=by
 unfold stN
 split
 ·exact h.leaf
 ·exact h.do
theorem NodesK.st {f:Int} {ns:List Nd} {st:Sp} (h:NodesK ns) (D:InR st.k) (E:st.op≠1->GvC st.op):NodesK (stN f ns st):=by
 unfold stN
 split
 ·exact h.leaf
 ·rename_i H
  exact h.do D (E H)
/-- A step that may be played and swept back. -/
structure SpK (st:Sp):Prop where
 k:InR st.k
 g:st.op≠1->GvC st.op
 x:RI st.X
 p:st.par=true->st.op=1
theorem s_b {sts:List Sp} (h:∀ st,st∈sts->SpK st) (i:Nat):SpK (spA sts i):=by
 by_cases D:i < sts.length
 ·exact h _ (i_1 D)
 ·unfold spA;rw [List.getD_eq_getElem?_getD,List.getElem?_eq_none (by omega)];exact ⟨by show InR 0;unfold InR;omega,fun h=>absurd rfl h,RI.nil,fun h=>by cases h⟩
theorem m_4 {f:Int} {sts:List Sp} (h:∀ st,st∈sts->SpK st) {ns:List Nd} (E:NodesG ns) (D:NodesV ns) (hK:NodesK ns):∀ i,NodesG (pyF f sts ns i).2.1/\NodesV (pyF f sts ns i).2.1/\NodesK (pyF f sts ns i).2.1
 | 0=>⟨E,D,hK⟩
 | i+1=>by
  obtain ⟨a,b,c⟩:=m_4 (f:=f) h E D hK i;have s:=s_b h i;unfold pyF
  split
  ·exact ⟨a.st s.x,b.st,c.st s.k s.g⟩
  ·exact ⟨a,b,c⟩
/-- A step that is laid: one node more, which its Leaf holds. -/
theorem t_d {f:Int} {ns:List Nd} {st:Sp} (h:stE f ns st=0):stR f ns st=(ns.length:Int)/\∃ nd,stN f ns st=ns++[nd]/\(st.op=1->nd.X=st.X):=by
 unfold stE at h;unfold stR stN;by_cases J:st.op=1
 ·rw [if_pos J] at h ⊢;rw [if_pos J];unfold f_I at h;by_cases H:512<=ns.length
  ·rw [if_pos H] at h;cases h
  ·rw [if_neg H] at h;by_cases E:isP st.D st.X
   ·have I:ns.length < 512/\isP st.D st.X:=⟨by omega,E⟩
    unfold f_J c_Q;rw [if_pos I,if_pos I];exact ⟨rfl,_,rfl,fun _=>rfl⟩
   ·rw [if_neg E] at h;cases h
 ·rw [if_neg J] at h ⊢;rw [if_neg J];unfold doE at h;by_cases H:512<=ns.length
  ·rw [if_pos H] at h;cases h
  ·rw [if_neg H] at h;by_cases E:okD ns st.op (f+st.a) (f+st.b)
   ·rw [if_pos E] at h;have I:doP ns st.op (f+st.a) (f+st.b) st.k:=⟨⟨by omega,E⟩,h⟩
    unfold doR doN;rw [if_pos I,if_pos I];exact ⟨rfl,_,rfl,fun e=>absurd e J⟩
   ·rw [if_neg E] at h;cases h
theorem g_9 {α β:Type} {f g:α->List β}:∀ {l:List α},(∀ x,x∈l->f x=g x)->l.flatMap f=l.flatMap g
 | [],_=>rfl
 | x :: l,h=>by
  rw [List.flatMap_cons,List.flatMap_cons,h x (List.mem_cons_self ..),g_9 fun y D=>h y (List.mem_cons_of_mem _ D)]
/-- The numbers that the nodes hold, in a row. -/
def ndX (ns:List Nd) (ps:List Int):List Int:=ps.flatMap fun i=>(ndN ns i).X
def i_b (sts:List Sp):List Int:=(sts.filter (·.par)).flatMap (·.X)
theorem e_2 (a b:List Sp):i_b (a++b)=i_b a++i_b b:=by
 unfold i_b;rw [List.filter_append,List.flatMap_append]
theorem k_d {ns:List Nd} {nd:Nd} {ps:List Int} (h:∀ i,i∈ps->0<=i/\i < (ns.length:Int)):ndX (ns++[nd]) ps=ndX ns ps:=by
 unfold ndX;refine g_9 fun i D=>?_;rw [m_y (h i D)]
theorem o_L {sts:List Sp} {i:Nat} (D:i < sts.length):sts.take (i+1)=sts.take i++[spA sts i]:=by
 rw [List.take_add_one,List.getElem?_eq_getElem D];unfold spA;rw [List.getD_eq_getElem?_getD,List.getElem?_eq_getElem D];rfl
theorem i_c {f:Int} {sts:List Sp} (h:∀ st,st∈sts->SpK st) {ns:List Nd}:∀ i,i<=sts.length->(pyF f sts ns i).1=0->(pyF f sts ns i).2.1.length=ns.length+i/\(∀ x,x∈(pyF f sts ns i).2.2.2->0<=x/\x < ((pyF f sts ns i).2.1.length:Int))/\ndX (pyF f sts ns i).2.1 (pyF f sts ns i).2.2.2=i_b (sts.take i)
 | 0,_,_=>⟨rfl,fun x J=>by simp [pyF] at J,rfl⟩
 | i+1,hi,h0=>by
  have s:=s_b h i
  have M:(pyF f sts ns i).1=0:=by
   refine Classical.byContradiction fun L=>?_;rw [pyF,if_neg L] at h0;exact L h0
  obtain ⟨a,b,c⟩:=i_c h i (by omega) M;rw [pyF,if_pos M] at h0 ⊢;dsimp only at h0 ⊢;obtain ⟨r,nd,e,J⟩:=t_d h0;rw [e,r,List.length_append,List.length_singleton,a];rw [o_L (by omega),e_2,<- c];by_cases E:(spA sts i).par=true
  ·rw [if_pos E];refine ⟨by omega,fun x D=>?_,?_⟩
   ·rcases List.mem_append.1 D with H|H
    ·have:=b x H;rw [a] at this;omega
    ·simp at H;omega
   ·have I:i_b [spA sts i]=(spA sts i).X:=by
     unfold i_b;simp [E]
    have O:ndX ((pyF f sts ns i).2.1++[nd]) ((pyF f sts ns i).2.2.2++[((ns.length+i:Nat):Int)])=ndX ((pyF f sts ns i).2.1++[nd]) (pyF f sts ns i).2.2.2++nd.X:=by
     have:=q_t (pyF f sts ns i).2.1 nd;rw [a] at this;unfold ndX;rw [List.flatMap_append];simp only [List.flatMap_cons,List.flatMap_nil,List.append_nil];rw [this]
    rw [O,k_d b,I,J (s.p E)]
  ·rw [if_neg E];refine ⟨by omega,fun x D=>?_,?_⟩
   ·have:=b x D;rw [a] at this;omega
   ·have I:i_b [spA sts i] = []:=by
     unfold i_b;simp [E]
    rw [k_d b,I,List.append_nil]
/-- The parameters, Leaf by Leaf. -/
theorem s_c (PP:List (List Int)) (rest:List Int):∀ j,i_b (prS PP rest j).1++(prS PP rest j).2=rest
 | 0=>rfl
 | j+1=>by
  have D:=s_c PP rest j;show i_b ((prS PP rest j).1++[spL (shA PP j) ((prS PP rest j).2.take (a_t (shA PP j)).toNat)])++(prS PP rest j).2.drop (a_t (shA PP j)).toNat=rest;rw [e_2];have:i_b [spL (shA PP j) ((prS PP rest j).2.take (a_t (shA PP j)).toNat)]=(prS PP rest j).2.take (a_t (shA PP j)).toNat:=by simp [i_b]
  rw [this,List.append_assoc,List.take_append_drop];exact D
theorem s_d (l:Ly) (d:List Int) (N:Nat) (rest:List Int) (E D:Int):i_b (f_P l d N rest E D)++i_a l d rest=rest:=by
 unfold f_P i_a;rw [e_2]
 have:i_b (if a_s l.1=0 then n_v (decide (d.length=2)) (N+2) (N:Int) ((N+1:Nat):Int) D else if a_s l.1=1 then [spD 12 D (N:Int) 1] else if a_s l.1=2 then [spD 13 D 0 l.2.1] else if a_s l.1=3 then [spD 11 D 0 l.2.1] else [spD 2 E D 0]) = []:=by
  unfold n_v
  repeat' split
  all_goals rfl
 rw [this,List.append_nil];exact s_c _ _ _
theorem s_e (d:List Int) (ls:List Ly) (S:List (List Int)) (P X:List Int):∀ i,i_b (plF d ls S P X i).1++(plF d ls S P X i).2.1=P
 | 0=>rfl
 | i+1=>by
  have D:=s_e d ls S P X i;show i_b ((plF d ls S P X i).1++f_P (lyA ls i) (shA S i) (plF d ls S P X i).1.length (plF d ls S P X i).2.1 (plF d ls S P X i).2.2.1 (plF d ls S P X i).2.2.2)++i_a (lyA ls i) (shA S i) (plF d ls S P X i).2.1=P;rw [e_2,List.append_assoc,s_d];exact D
/-- The Ops of a plan. -/
def t_e (op:Int):Prop:=op=1∨op=2∨op=4∨op=8∨op=11∨op=12∨op=13∨op=14
theorem k_e (PP:List (List Int)) (rest:List Int):∀ j st,st∈(prS PP rest j).1->st.op=1
 | 0,st,h=>by simp [prS] at h
 | j+1,st,h=>by
  rcases List.mem_append.1 (show st∈(prS PP rest j).1++[spL (shA PP j) ((prS PP rest j).2.take (a_t (shA PP j)).toNat)] from h) with h|h
  ·exact k_e PP rest j st h
  ·simp at h;subst h;rfl
theorem q_V (l:Ly) (d:List Int) (N:Nat) (rest:List Int) (E D:Int):∀ st,st∈f_P l d N rest E D->t_e st.op/\(st.par=true->st.op=1):=by
 intro st h;unfold f_P at h;rcases List.mem_append.1 h with h|h
 ·exact ⟨.inl (k_e _ _ _ st h),fun _=>k_e _ _ _ st h⟩
 ·unfold n_v at h;unfold t_e
  repeat' split at h
  all_goals
   simp only [List.mem_cons,List.not_mem_nil,or_false] at h
   first
    | (rcases h with h|h|h|h <;> subst h <;> exact ⟨by simp [spD],fun e=>by simp [spD] at e⟩)
    | (rcases h with h|h|h <;> subst h <;> exact ⟨by simp [spD],fun e=>by simp [spD] at e⟩)
    | (subst h;exact ⟨by simp [spD],fun e=>by simp [spD] at e⟩)
theorem m_5 (d:List Int) (ls:List Ly) (S:List (List Int)) (P X:List Int):∀ i st,st∈(plF d ls S P X i).1->t_e st.op/\(st.par=true->st.op=1)
 | 0,st,h=>by
  simp [plF] at h;subst h;exact ⟨.inl rfl,fun e=>rfl⟩
 | i+1,st,h=>by
  rcases List.mem_append.1 (show st∈(plF d ls S P X i).1++f_P (lyA ls i) (shA S i) (plF d ls S P X i).1.length (plF d ls S P X i).2.1 (plF d ls S P X i).2.2.1 (plF d ls S P X i).2.2.2 from h) with h|h
  ·exact m_5 d ls S P X i st h
  ·exact q_V _ _ _ _ _ _ st h
/-- What Run leaves: nodes that may be swept back; the parameters' own hold just them. -/
structure RnO (R:Int×List Nd×Int×List Int) (P:List Int):Prop where
 g:NodesG R.2.1
 v:NodesV R.2.1
 k:NodesK R.2.1
 l:R.2.1.length<=512
 m:R.2.2.2.length<=512
 p:R.1=0->(∀ x,x∈R.2.2.2->0<=x/\x < (R.2.1.length:Int))/\ndX R.2.1 R.2.2.2=P
theorem m_6 {f:Int} {sts:List Sp} {ns:List Nd} (h:ns.length<=512):∀ i,(pyF f sts ns i).2.1.length<=512
 | 0=>h
 | i+1=>by
  have D:=m_6 (f:=f) (sts:=sts) h i;unfold pyF
  split
  ·show (stN f _ _).length<=512;unfold stN
   split
   ·exact j_V _ _ _ D
   ·exact p_g _ _ _ _ _ D
  ·exact D
theorem s_f {d:List Int} {ls:List Ly} {P X:List Int} (hP:RI P) (hX:RI X) (I:nE d ls=0->∀ st,st∈(plF d ls (nS d ls) P X ls.length).1->st.op≠1->GvC st.op):RnO (rnF d ls [] P X) P:=by
 have no:∀ e:Int,e≠0->RnO (e,[],0,[]) P:=fun e he=>⟨fun nd h=>by simp at h,NodesV.nil,NodesK.nil,by simp,by simp,fun h=>absurd h he⟩
 unfold rnF;by_cases H:nE d ls=0
 ·rw [if_pos H];by_cases M:(P.length:Int)=b_5 ls (nS d ls) ls.length/\(X.length:Int)=a_t d
  ·rw [if_pos M];by_cases J:([]:List Nd).length+(plF d ls (nS d ls) P X ls.length).1.length<=512
   ·rw [if_pos J];obtain ⟨S,hf,V,O⟩:=e_Z H;obtain ⟨_,L,_⟩:=k_O hf V O;have U:=NetOk.of hf V
    have D:∀ st,st∈(plF d ls (nS d ls) P X ls.length).1->SpK st:=fun st E=>by
     have a:=((m_3 U (by unfold e_N at O;simp at O;omega) ((c_f d ls).1 hf).1.ri hP hX ls.length (Nat.le_refl _)).1 st (by rw [<- L];exact E))
     refine ⟨?_,I H st E,a.rX,(m_5 _ _ _ _ _ _ st E).2⟩;have:=a.rk;unfold InR;omega
    obtain ⟨a,b,c⟩:=m_4 (f:=((([]:List Nd).length:Nat):Int)) D (ns:=[]) (fun nd h=>by simp at h) NodesV.nil NodesK.nil (plF d ls (nS d ls) P X ls.length).1.length;refine ⟨a,b,c,m_6 (by simp) _,?_,fun e=>?_⟩
    ·show (if _ then _ else _:List Int).length<=512
     split
     ·have:=i_0 ((([]:List Nd).length:Nat):Int) (plF d ls (nS d ls) P X ls.length).1 [] (plF d ls (nS d ls) P X ls.length).1.length;simp only [List.length_nil,Nat.zero_add] at J;omega
     ·simp
    have R:(pyF ((([]:List Nd).length:Nat):Int) (plF d ls (nS d ls) P X ls.length).1 [] (plF d ls (nS d ls) P X ls.length).1.length).1=0:=e;obtain ⟨_,q,r⟩:=i_c D (ns:=[]) _ (Nat.le_refl _) R;dsimp only;rw [if_pos R];refine ⟨q,?_⟩;rw [r,List.take_length];have x:=s_e d ls (nS d ls) P X ls.length;have y:=(g_8 (P:=P) (X:=X) U (by rw [<- L];exact M.1) ls.length (Nat.le_refl _)).1;rw [<- L] at y;have z:(plF d ls (nS d ls) P X ls.length).2.1 = []:=List.eq_nil_of_length_eq_zero (by omega);rw [z,List.append_nil] at x;exact x
   ·rw [if_neg J];exact no 2 (by decide)
  ·rw [if_neg M];exact no 1 (by decide)
 ·rw [if_neg H];exact no _ H
theorem t_f {ns:List Nd} {s:Nd} (h:lsE ns s=0):lsR ns s=(ns.length:Int)/\∃ nd,lsN ns s=ns++[nd]:=by
 unfold lsE at h;unfold lsR lsN;by_cases J:s.op=1
 ·rw [if_pos J] at h ⊢;rw [if_pos J];unfold f_I at h;by_cases H:512<=ns.length
  ·rw [if_pos H] at h;cases h
  ·rw [if_neg H] at h;by_cases E:isP s.D s.X
   ·have I:ns.length < 512/\isP s.D s.X:=⟨by omega,E⟩
    unfold f_J c_Q;rw [if_pos I,if_pos I];exact ⟨rfl,_,rfl⟩
   ·rw [if_neg E] at h;cases h
 ·rw [if_neg J] at h ⊢;rw [if_neg J];unfold doE at h;by_cases H:512<=ns.length
  ·rw [if_pos H] at h;cases h
  ·rw [if_neg H] at h;by_cases E:okD ns s.op s.a s.b
   ·rw [if_pos E] at h;have I:doP ns s.op s.a s.b s.k:=⟨⟨by omega,E⟩,h⟩
    unfold doR doN;rw [if_pos I,if_pos I];exact ⟨rfl,_,rfl⟩
   ·rw [if_neg E] at h;cases h
theorem m_7 {sts ns:List Nd}:∀ i,(lyF sts ns i).1=0->∃ D,(lyF sts ns i).2.1=ns++D/\D.length=i/\(0 < i->(lyF sts ns i).2.2+1=((ns.length+i:Nat):Int))
 | 0,_=>⟨[],by simp [lyF],rfl,fun h=>by omega⟩
 | i+1,h=>by
  have H:(lyF sts ns i).1=0:=by
   refine Classical.byContradiction fun E=>?_;rw [lyF,if_neg E] at h;exact E h
  obtain ⟨D,a,b,_⟩:=m_7 i H;rw [lyF,if_pos H] at h ⊢;dsimp only at h ⊢;obtain ⟨r,nd,e⟩:=t_f h;refine ⟨D++[nd],?_,by simp [b],fun _=>?_⟩
  ·rw [e,a,List.append_assoc]
  ·rw [r,a,List.length_append,b];omega
theorem s_g {e:Int} {ns sts:List Nd} (I:0 < sts.length) (h:loE e ns sts=0):∃ H,loN e ns sts=ns++H/\H.length=sts.length/\loR e ns sts+1=((ns.length+sts.length:Nat):Int)/\ns.length+sts.length<=512:=by
 unfold loE at h;by_cases E:e=0
 ·rw [if_pos E] at h;unfold lyE at h;by_cases D:lyP ns sts
  ·rw [if_pos D] at h;obtain ⟨H,a,b,c⟩:=m_7 _ h;unfold loN loR lyM lyR;rw [if_pos E,if_pos E,if_pos D,if_pos ⟨D,h⟩];exact ⟨H,a,b,c I,D⟩
  ·rw [if_neg D] at h;cases h
 ·rw [if_neg E] at h;exact absurd h E
theorem p_r {sts ns:List Nd} (h:ns.length<=512):∀ i,(lyF sts ns i).2.1.length<=512
 | 0=>h
 | i+1=>by
  have D:=p_r (sts:=sts) h i;unfold lyF
  split
  ·show (lsN _ _).length<=512;unfold lsN
   split
   ·exact j_V _ _ _ D
   ·exact p_g _ _ _ _ _ D
  ·exact D
theorem s_h {e:Int} {ns sts:List Nd} (h:ns.length<=512):(loN e ns sts).length<=512:=by
 unfold loN lyM
 split
 ·split
  ·exact p_r h _
  ·exact h
 ·exact h
/-- The loss of a kind: its error, its node, the nodes. -/
def gkS (k o cl:Int) (ns:List Nd) (y:List Int):Int×List Nd:=if k=1 then (e_W ns o y,sqS (ns.length:Int) o y) else if k=2 then (e_W ns o y,szS (ns.length:Int) o y) else (i_K ns o cl,hgS (ns.length:Int) o (m_x ns o cl) cl)
def gkE (k o cl:Int) (ns:List Nd) (y:List Int):Int:=loE (gkS k o cl ns y).1 ns (gkS k o cl ns y).2
def gkR (k o cl:Int) (ns:List Nd) (y:List Int):Int:=loR (gkS k o cl ns y).1 ns (gkS k o cl ns y).2
def gkN (k o cl:Int) (ns:List Nd) (y:List Int):List Nd:=loN (gkS k o cl ns y).1 ns (gkS k o cl ns y).2
theorem q_W (k o cl:Int) (ns:List Nd) (y:List Int):0 < (gkS k o cl ns y).2.length:=by
 unfold gkS
 split
 ·simp [sqS]
 ·split
  ·simp [szS]
  ·simp [hgS]
theorem t_g {k o cl:Int} {ns:List Nd} {y:List Int} (E:RI y) (D:NodesG ns) (H:NodesV ns) (hK:NodesK ns) (I:ns.length<=512):NodesG (gkN k o cl ns y)/\NodesV (gkN k o cl ns y)/\NodesK (gkN k o cl ns y)/\(gkN k o cl ns y).length<=512:=by
 refine ⟨?_,H.lo,?_,s_h I⟩
 ·unfold gkN gkS
  split
  ·exact D.lo (s_2 E)
  ·split
   ·exact D.lo (s_3 E)
   ·exact D.lo s_4
 ·unfold gkN gkS
  split
  ·exact hK.lo s_9
  ·split
   ·exact hK.lo t_a
   ·exact hK.lo t_b
/-- The gradients of the parameters' nodes, in a row. -/
def d_I (G:List Ten) (ps:List Int):List Int:=ps.flatMap fun i=>(G.getD i.toNat noT).2
/-- What is told where the loss' node r stands on the tape N: an error, the row, the loss. -/
def gfT (N:List Nd) (r:Int) (ps:List Int):Int×List Int×Int:=if swE N r=0 then (0,d_I (swL N r) ps,(ndN N r).X.getD 0 0) else (swE N r,[],0)
def gfR (k cl:Int) (y:List Int) (R:Int×List Nd×Int×List Int):Int×List Int×Int:=if R.1=0 then if gkE k R.2.2.1 cl R.2.1 y=0 then gfT (gkN k R.2.2.1 cl R.2.1 y) (gkR k R.2.2.1 cl R.2.1 y) R.2.2.2 else (gkE k R.2.2.1 cl R.2.1 y,[],0) else (R.1,[],0)
def gof (d:List Int) (ls:List Ly) (k:Int) (P X y:List Int) (cl:Int):Int×List Int×Int:=if 1<=k/\k<=3 then gfR k cl y (rnF d ls [] P X) else (1,[],0)
/-- A row that was told is as long as the parameters, and Go's. -/
def GfO (n:Nat) (T:Int×List Int×Int):Prop:=(T.1=0->T.2.1.length=n)/\RI T.2.1/\InR T.2.2
theorem GfO.no (n:Nat) {e:Int} (h:e≠0):GfO n (e,[],0):=⟨fun D=>absurd D h,RI.nil,by show InR 0;unfold InR;omega⟩
/-- The gradient of a node ahead of the root. -/
theorem s_i {N:List Nd} {r:Int} (H:NodesG N) (L:NodesV N) (h:swE N r=0):(0<=r/\r < (N.length:Int))/\(ndN N r).X.length=1/\(swL N r).length=r.toNat+1/\∀ i:Int,0<=i->i<=r->b_d ((swL N r).getD i.toNat noT)/\((swL N r).getD i.toNat noT).2.length=(ndN N i).X.length:=by
 have J:=h;unfold swE at h;by_cases D:0<=r/\r < (N.length:Int)
 ·rw [if_pos D] at h;by_cases E:(ndN N r).X.length=1
  ·obtain ⟨q,rfl⟩:=Int.eq_ofNat_of_zero_le D.1;have S:=q_C H L (root:=q) (by omega) E (q+1);unfold swL;rw [if_pos J,Int.toNat_natCast];refine ⟨D,E,S.l,fun i I M=>?_⟩;obtain ⟨j,rfl⟩:=Int.eq_ofNat_of_zero_le I;rw [Int.toNat_natCast];obtain ⟨a,b⟩:=S.g j (by omega);refine ⟨a,?_⟩;have c:=H.at (i:=(j:Int)) (by omega) (by omega)
   rw [a.1.2,b,c.1.2]
  ·rw [if_neg E] at h;cases h
 ·rw [if_neg D] at h;cases h
theorem h_a {N:List Nd} {G:List Ten}:∀ {ps:List Int},(∀ i,i∈ps->(G.getD i.toNat noT).2.length=(ndN N i).X.length)->(d_I G ps).length=(ndX N ps).length
 | [],_=>rfl
 | i :: ps,h=>by
  have D:=h_a (N:=N) (G:=G) (ps:=ps) fun j E=>h j (List.mem_cons_of_mem _ E);unfold d_I ndX at D ⊢;rw [List.flatMap_cons,List.flatMap_cons,List.length_append,List.length_append,D,h i (List.mem_cons_self ..)]
theorem q_X {G:List Ten} {ps:List Int} (h:∀ i,i∈ps->b_d (G.getD i.toNat noT)):RI (d_I G ps):=fun x E=>by
 obtain ⟨i,D,H⟩:=List.mem_flatMap.1 E;exact (h i D).2.2 x H
theorem t_h {N:List Nd} {r:Int} {ps:List Int} (I:NodesG N) (M:NodesV N) {n:Nat} (E:∀ i,i∈ps->0<=i/\i<=r) (L:(ndX N ps).length=n):GfO n (gfT N r ps):=by
 unfold gfT;by_cases h:swE N r=0
 ·rw [if_pos h];obtain ⟨H,O,_,J⟩:=s_i I M h;refine ⟨fun _=>?_,q_X fun i D=>(J i (E i D).1 (E i D).2).1,?_⟩
  ·show (d_I _ ps).length=n;rw [<- L];exact h_a fun i D=>(J i (E i D).1 (E i D).2).2
  ·have:=(I.at H.1 H.2).2.2;show InR ((ndN N r).X.getD 0 0);rw [List.getD_eq_getElem?_getD,List.getElem?_eq_getElem (by omega)];exact this _ (List.getElem_mem _)
 ·rw [if_neg h];exact GfO.no n h
theorem o_M {ns E:List Nd} {ps:List Int} (h:∀ i,i∈ps->0<=i/\i < (ns.length:Int)):ndX (ns++E) ps=ndX ns ps:=by
 unfold ndX;refine g_9 fun i D=>?_;rw [m_y (h i D)]
/-- What Run left, and a loss laid on it. -/
structure GkO (N:List Nd) (r:Int) (ps:List Int) (n:Nat):Prop where
 g:NodesG N
 v:NodesV N
 k:NodesK N
 l:N.length<=512
 m:ps.length<=512
 p:∀ i,i∈ps->0<=i/\i<=r
 n:(ndX N ps).length=n
theorem RnO.gk {R:Int×List Nd×Int×List Int} {P:List Int} (h:RnO R P) {k cl:Int} {y:List Int} (E:RI y) (I:R.1=0) (H:gkE k R.2.2.1 cl R.2.1 y=0):GkO (gkN k R.2.2.1 cl R.2.1 y) (gkR k R.2.2.1 cl R.2.1 y) R.2.2.2 P.length:=by
 obtain ⟨a,b,c,d⟩:=t_g (k:=k) (o:=R.2.2.1) (cl:=cl) E h.g h.v h.k h.l;obtain ⟨p,q⟩:=h.p I;have D:=q_W k R.2.2.1 cl R.2.1 y;obtain ⟨U,e,O,M,L⟩:=s_g D H;refine ⟨a,b,c,d,h.m,fun i J=>?_,?_⟩
 ·have:=p i J;show 0<=i/\i<=loR _ _ _;omega
 ·show (ndX (loN _ _ _) _).length=_;rw [e,o_M p,q]
theorem t_i {d:List Int} {ls:List Ly} {k cl:Int} {P X y:List Int} (I:RnO (rnF d ls [] P X) P) (J:RI y):GfO P.length (gof d ls k P X y cl):=by
 unfold gof;by_cases H:1<=k/\k<=3
 ·rw [if_pos H];unfold gfR;by_cases D:(rnF d ls [] P X).1=0
  ·rw [if_pos D];by_cases E:gkE k (rnF d ls [] P X).2.2.1 cl (rnF d ls [] P X).2.1 y=0
   ·rw [if_pos E];have g:=I.gk J D E;exact t_h g.g g.v g.p g.n
   ·rw [if_neg E];exact GfO.no _ E
  ·rw [if_neg D];exact GfO.no _ D
 ·rw [if_neg H];exact GfO.no _ (by decide)
/-- An example: what comes in, what is wanted, the class. -/
abbrev Exm:=List Int×List Int×Int
def g_s (d:List Int) (ls:List Ly) (k:Int) (P:List Int) (e:Exm):Int×List Int×Int:=gof d ls k P e.1 e.2.1 e.2.2
/-- Number by number, as Wides. -/
def e_o (s x:List Int):List Int:=(List.range s.length).map fun i=>wr (s.getD i 0+x.getD i 0)
def exA (l:List Exm) (i:Nat):Exm:=l.getD i ([],[],0)
/-- What the first i examples come to: an error, the sums, the losses' sum. -/
def smK (f:Exm->Int×List Int×Int) (n:Nat) (l:List Exm):Nat->Int×List Int×Int
 | 0=>(0,List.replicate n 0,0)
 | i+1=>if (smK f n l i).1=0 then if (f (exA l i)).1=0 then (0,e_o (smK f n l i).2.1 (f (exA l i)).2.1,wr ((smK f n l i).2.2+(f (exA l i)).2.2)) else ((f (exA l i)).1,[],0) else smK f n l i
theorem k_f (f:Exm->Int×List Int×Int) (n:Nat) (l:List Exm) (i:Nat) (h:(smK f n l i).1≠0):∀ k,smK f n l (i+k)=smK f n l i
 | 0=>rfl
 | k+1=>by
  have:=k_f f n l i h k;rw [<- Nat.add_assoc,smK,this,if_neg h]
def r_d (f:Exm->Int×List Int×Int) (j:Nat) (l:List Exm):Int:=(l.map fun e=>(f e).2.1.getD j 0).sum
def s_C (f:Exm->Int×List Int×Int) (l:List Exm):Int:=(l.map fun e=>(f e).2.2).sum
def i_j (f:Exm->Int×List Int×Int) (n:Nat) (l:List Exm):List Int:=(List.range n).map fun j=>wr (r_d f j l)
theorem i_2 (f:Exm->Int×List Int×Int) (n:Nat) (l:List Exm) (i:Nat) (h:i < n):(i_j f n l).getD i 0=wr (r_d f i l):=by
 unfold i_j;rw [List.getD_eq_getElem?_getD,List.getElem?_map,List.getElem?_range h];rfl
theorem h_b (f:Exm->Int×List Int×Int) (n:Nat) (l:List Exm):(i_j f n l).length=n:=by simp [i_j]
theorem h_c (s x:List Int):(e_o s x).length=s.length:=by simp [e_o]
theorem i_d (f:Exm->Int×List Int×Int) (n:Nat) (l m:List Exm):e_o (i_j f n l) (i_j f n m)=i_j f n (l++m):=by
 show (List.range (i_j f n l).length).map _=(List.range n).map _;rw [h_b];refine List.map_congr_left fun i D=>?_;have D:=List.mem_range.1 D;rw [i_2 _ _ _ _ D,i_2 _ _ _ _ D,j_C,l_I]
 congr 1
 unfold r_d;rw [List.map_append,List.sum_append]
theorem o_N (f:Exm->Int×List Int×Int) (n:Nat) (l:List Exm) (e:Exm):e_o (i_j f n l) (f e).2.1=i_j f n (l++[e]):=by
 show (List.range (i_j f n l).length).map _=(List.range n).map _;rw [h_b];refine List.map_congr_left fun i D=>?_;have D:=List.mem_range.1 D;rw [i_2 _ _ _ _ D,j_C]
 congr 1
 unfold r_d;rw [List.map_append,List.sum_append];simp
theorem k_g {l:List Exm} {i:Nat} (D:i < l.length):l.take (i+1)=l.take i++[exA l i]:=by
 rw [List.take_add_one,List.getElem?_eq_getElem D];unfold exA;rw [List.getD_eq_getElem?_getD,List.getElem?_eq_getElem D];rfl
theorem o_O (f:Exm->Int×List Int×Int) (n:Nat):i_j f n []=List.replicate n 0:=by
 unfold i_j;refine List.ext_getElem (by simp) fun i E D=>?_;simp [r_d];rfl
theorem p_s (f:Exm->Int×List Int×Int) (n:Nat) (l:List Exm):∀ i,i<=l.length->(∀ e,e∈l.take i->(f e).1=0)->smK f n l i=(0,i_j f n (l.take i),wr (s_C f (l.take i)))
 | 0,_,_=>by
  rw [smK,List.take_zero,o_O];rfl
 | i+1,hi,h=>by
  rw [k_g (by omega)] at h ⊢;have D:=p_s f n l i (by omega) fun e he=>h e (List.mem_append_left _ he);have E:=h (exA l i) (List.mem_append_right _ (List.mem_singleton_self _));rw [smK,D,if_pos rfl,if_pos E];dsimp only;rw [o_N,j_C];unfold s_C;rw [List.map_append,List.sum_append];simp
theorem m_8 (f:Exm->Int×List Int×Int) (n:Nat) (l:List Exm):∀ i,i<=l.length->(smK f n l i).1=0->∀ e,e∈l.take i->(f e).1=0
 | 0,_,_,e,he=>by simp at he
 | i+1,hi,h,e,he=>by
  have E:(smK f n l i).1=0:=by
   refine Classical.byContradiction fun D=>?_;rw [smK,if_neg D] at h;exact D h
  rw [k_g (by omega)] at he;rw [smK,if_pos E] at h;rcases List.mem_append.1 he with he|he
  ·exact m_8 f n l i (by omega) E e he
  ·rw [List.mem_singleton] at he;subst he;refine Classical.byContradiction fun D=>?_;rw [if_neg D] at h;exact D h
/-- All examples summed. -/
def f_4 (f:Exm->Int×List Int×Int) (n:Nat) (l:List Exm):Int×List Int×Int:=smK f n l l.length
theorem h_d {f:Exm->Int×List Int×Int} {n:Nat} {l:List Exm} (h:∀ e,e∈l->(f e).1=0):f_4 f n l=(0,i_j f n l,wr (s_C f l)):=by
 have:=p_s f n l l.length (Nat.le_refl _) (by rw [List.take_length];exact h);rwa [List.take_length] at this
theorem k_h {f:Exm->Int×List Int×Int} {n:Nat} {l:List Exm} (h:(f_4 f n l).1=0):∀ e,e∈l->(f e).1=0:=by
 have:=m_8 f n l l.length (Nat.le_refl _) h;rwa [List.take_length] at this
/-- In two parts, joined, in either order. -/
theorem k_X {f:Exm->Int×List Int×Int} {n:Nat} {l m:List Exm} (h:(f_4 f n (l++m)).1=0):(f_4 f n l).1=0/\(f_4 f n m).1=0/\e_o (f_4 f n l).2.1 (f_4 f n m).2.1=(f_4 f n (l++m)).2.1/\e_o (f_4 f n m).2.1 (f_4 f n l).2.1=(f_4 f n (l++m)).2.1/\wr ((f_4 f n l).2.2+(f_4 f n m).2.2)=(f_4 f n (l++m)).2.2:=by
 have a:=k_h h;rw [h_d a,h_d fun e he=>a e (List.mem_append_left _ he),h_d fun e he=>a e (List.mem_append_right _ he)];refine ⟨rfl,rfl,i_d f n l m,?_,?_⟩
 ·rw [i_d f n m l];unfold i_j r_d;refine List.map_congr_left fun i _=>?_;rw [List.map_append,List.map_append,List.sum_append,List.sum_append,Int.add_comm]
 ·dsimp only;rw [j_C,l_I];unfold s_C;rw [List.map_append,List.sum_append]
end Go.Proofs.YtjlofobnmjompaaGreatDoor.Wd
namespace Go.Proofs.YtjlofobnmjompaaGreatDoor.Wd
open Go.ChangeShapes Go.WideShapes Go.ChangeAt Go.RowKit Go.Joins Go.Deep
def LayN (W:World) (p:Option Addr) (n c:Nat) (ls:List Ly):Prop:=n<=c/\c<=9223372036854775807/\LyR 0 W p n ls
theorem k_Y {α:Type} {l:List α} (h:l.length=3):∃ a b c,l = [a,b,c]:=by
 match l,h with
 | [a,b,c],_=>exact ⟨a,b,c,rfl⟩
theorem s_j {W:World} {p:Option Addr} {n:Nat} (h:∀ i,i < n->∃ q o s a b,p=some ⟨q,o,none⟩/\W.cell? ⟨q,o+i*3,none⟩=some (.string s)/\W.cell? ⟨q,o+i*3+1,none⟩=some (.int .i64 a)/\W.cell? ⟨q,o+i*3+2,none⟩=some (.int .i64 b)):∃ ls,LyR 0 W p n ls:=by
 have H:∀ i,∃ l:Ly,i < n->∃ q o,p=some ⟨q,o,none⟩/\W.cell? ⟨q,o+i*3,none⟩=some (.string l.1)/\W.cell? ⟨q,o+i*3+1,none⟩=some (.int .i64 l.2.1)/\W.cell? ⟨q,o+i*3+2,none⟩=some (.int .i64 l.2.2):=fun i=>by
  by_cases D:i < n
  ·obtain ⟨q,o,s,a,b,I⟩:=h i D;exact ⟨(s,a,b),fun _=>⟨q,o,I⟩⟩
  ·exact ⟨lyD,fun E=>absurd E D⟩
 obtain ⟨f,hf⟩:=Classical.axiomOfChoice H;refine ⟨(List.range n).map f,by simp,fun i D=>?_⟩
 have e:lyA ((List.range n).map f) i=f i:=by
  unfold lyA;rw [List.getD_eq_getElem?_getD,List.getElem?_map,List.getElem?_range D];rfl
 rw [e];exact hf i D
theorem m_9 {H:Type} {enc:TypeId×Value->H} {P:Program} {W:World} {t e:TypeId} {f0 V R:Field} {a:Option Addr} {n c:Nat} {d:DataW H} {ps:List MemPlace}
  (ht:P.underlying t=some (.slice e)) (he:P.underlying e=some (.struct #[f0,V,R])) (ce:P.cellsOf e=3)
  (o0:f0.offset=0) (o1:V.offset=1) (o2:R.offset=2) (c0:P.cellsOf f0.type=1) (c1:P.cellsOf V.type=1) (c2:P.cellsOf R.type=1)
  (u0:P.underlying f0.type=some .string) (u1:P.underlying V.type=some (.int .i64)) (u2:P.underlying R.type=some (.int .i64))
  (h:DataW.Trod enc P W 0 (fun _=>true) true t (.slice a n c) d ps):∃ ls,LayN W a n c ls:=by
 obtain ⟨fuel,hf⟩:=h;rcases open_slice ht hf with ⟨I,_⟩|⟨x,ap,cap,m,fu,D,Pl,I,hb,hl,hm,aj,_,hx⟩
 ·simp [Value.cells] at I;obtain ⟨rfl,rfl,rfl⟩:=I;exact ⟨[],Nat.le_refl _,by omega,rfl,fun i hi=>by omega⟩
 ·simp [Value.cells] at I;obtain ⟨rfl,rfl,rfl⟩:=I
  have ah:∃ ls,LyR 0 W (some x) n ls:=s_j fun i hi=>by
   have aq:n<=m:=by rw [aj];split <;> omega
   obtain ⟨ar,h1,h2⟩:=hx i (by omega);rw [ce] at h1;obtain ⟨_,ae,E⟩:=World.cells?_some h1;obtain ⟨xs,fk,_,_,_,am,M⟩:=DataW.trod_struct he h2;obtain ⟨y0,y1,y2,rfl⟩:=k_Y am;obtain ⟨v0,v1,v2,rfl⟩:=k_Y ae;have t0:=M 0 f0 rfl;have t1:=M 1 V rfl;have t2:=M 2 R rfl;simp [o0,c0] at t0;simp [o1,c1] at t1;simp [o2,c2] at t2;obtain ⟨z0,ac,_,w0⟩:=DataW.trod_string u0 t0;obtain ⟨z1,af,_,w1⟩:=DataW.trod_int u1 t1;obtain ⟨z2,O,_,w2⟩:=DataW.trod_int u2 t2;simp only [List.cons.injEq,and_true] at ac af O;subst ac af O;have U:=E 0 (by omega);have aa:=E 1 (by omega);have ab:=E 2 (by omega);rw [add_add] at U aa ab
   have ex:x=⟨x.block,x.off,none⟩:=by
    obtain ⟨au,ad,_⟩:=hx 0 (by omega);rw [ce] at ad;obtain ⟨_,L,J⟩:=World.cells?_some ad;obtain ⟨ak,ao,an,rfl⟩:=k_Y L;have h0:=J 0 (by omega);rw [add_add,Nat.zero_mul] at h0;have ag:x.add (0+0)=x:=by simp [Addr.add]
    rw [ag] at h0;exact c_1 (v:=ak) (by simpa using h0)
   have hs:∀ j v,W.cell? (x.add j)=some v->x=⟨x.block,x.off,none⟩/\W.cell? ⟨x.block,x.off+j,none⟩=some v:=fun j v hv=>by
    rw [ex,a_u] at hv;exact ⟨ex,hv⟩
   have n0:=hs _ _ (by simpa using U);refine ⟨x.block,x.off,z0,z1,z2,by rw [<- n0.1],n0.2,?_,?_⟩
   ·rw [Nat.add_assoc];exact (hs _ _ (by simpa using aa)).2
   ·rw [Nat.add_assoc];exact (hs _ _ (by simpa using ab)).2
  obtain ⟨ls,ai⟩:=ah;exact ⟨ls,hl,by unfold maxLen at hm;omega,ai⟩
theorem open_net {H:Type} {enc:TypeId×Value->H} {P:Program} {W:World} {r:Reach} {b0:Nat} {t U V:TypeId} {g0 g1 R O L:Field} {v:Value} {d:DataW H} {ps:List MemPlace}
  (hs:P.underlying t=some (.struct #[g0,g1])) (D:oneCellFields P #[g0,g1]=true) (hC:P.cellsOf t=2)
  (t0:P.underlying g0.type=some (.slice U)) (u0:P.underlying U=some (.int .i64)) (c0:P.cellsOf U=1)
  (t1:P.underlying g1.type=some (.slice V)) (he:P.underlying V=some (.struct #[R,O,L])) (ce:P.cellsOf V=3)
  (o0:R.offset=0) (o1:O.offset=1) (o2:L.offset=2) (k0:P.cellsOf R.type=1) (k1:P.cellsOf O.type=1) (k2:P.cellsOf L.type=1)
  (v0:P.underlying R.type=some .string) (v1:P.underlying O.type=some (.int .i64)) (v2:P.underlying L.type=some (.int .i64))
  (hv:Value.okWide P W r b0 t v) (h:DataW.Trod enc P W 0 (fun _=>true) true t v d ps):
  ∃ (a:Option Addr) (n c:Nat) (z:Nat->Int) (I:Option Addr) (J M:Nat) (ls:List Ly),v = .agg #[.slice a n c,.slice I J M]/\RowN .i64 W a n c z/\LayN W I J M ls:=by
 obtain ⟨x0,x1,y0,y1,m,rfl,_,_,h0,h1⟩:=open_agg2 hs D hC hv h;obtain ⟨a,n,c,ea⟩:=slice_form t0 h0;obtain ⟨I,J,M,E⟩:=slice_form t1 h1;simp only [List.cons.injEq,and_true] at ea E;subst ea E;obtain ⟨z,hz⟩:=open_rowN (d:=y0.1) (ps:=y0.2) t0 u0 c0 ⟨m,h0⟩;obtain ⟨ls,aa⟩:=m_9 (d:=y1.1) (ps:=y1.2) t1 he ce o0 o1 o2 k0 k1 k2 v0 v1 v2 ⟨m,h1⟩;exact ⟨a,n,c,z,I,J,M,ls,rfl,hz,aa⟩
end Go.Proofs.YtjlofobnmjompaaGreatDoor.Wd
namespace Go.Proofs.YtjlofobnmjompaaGreatDoor.Wd
open Go.ChangeShapes Go.WideShapes Go.ChangeAt Go.RowKit Go.Joins Go.Deep Fx
/-- A row of Go's numbers that is read. -/
def RowI (W:World) (p:Option Addr) (n c:Nat) (l:List Int):Prop:=Nums .i64 W (.slice p n c) l/\RI l/\n<=c
theorem RowN.rowI {W:World} {p:Option Addr} {n c:Nat} {z:Nat->Int} (h:RowN .i64 W p n c z):RowI W p n c (l_c n z):=⟨h.nums,h.riI,h.1.1⟩
theorem RowI.up {W W':World} {p:Option Addr} {n c:Nat} {l:List Int} (h:RowI W p n c l) (D:Below W.heap.size W W'):RowI W' p n c l:=⟨h.1.up D,h.2⟩
/-- An example's three cells. -/
def ExAt (W:World) (q o:Nat) (e:Exm):Prop:=∃ p n c p2 n2 c2,W.cell? ⟨q,o,none⟩=some (.slice p n c)/\W.cell? ⟨q,o+1,none⟩=some (.slice p2 n2 c2)/\W.cell? ⟨q,o+2,none⟩=some (.int .i64 e.2.2)/\InR e.2.2/\RowI W p n c e.1/\RowI W p2 n2 c2 e.2.1
theorem ExAt.up {W W':World} {q o:Nat} {e:Exm} (h:ExAt W q o e) (D:Below W.heap.size W W'):ExAt W' q o e:=by
 obtain ⟨p,n,c,H,I,E,a,b,d,i,r,s⟩:=h;exact ⟨p,n,c,H,I,E,keep D a,keep D b,keep D d,i,r.up D,s.up D⟩
def ExR (W:World) (p:Option Addr) (n:Nat) (l:List Exm):Prop:=l.length=n/\∀ i,i < n->∃ q o,p=some ⟨q,o,none⟩/\ExAt W q (o+i*3) (exA l i)
theorem ExR.up {W W':World} {p:Option Addr} {n:Nat} {l:List Exm} (h:ExR W p n l) (D:Below W.heap.size W W'):ExR W' p n l:=⟨h.1,fun i E=>by
 obtain ⟨q,o,e,a⟩:=h.2 i E;exact ⟨q,o,e,a.up D⟩⟩
def ExsN (W:World) (p:Option Addr) (n c:Nat) (l:List Exm):Prop:=n<=c/\c<=9223372036854775807/\ExR W p n l
theorem s_k {W:World} {p:Option Addr} {n:Nat} (h:∀ i,i < n->∃ q o e,p=some ⟨q,o,none⟩/\ExAt W q (o+i*3) e):∃ l,ExR W p n l:=by
 have H:∀ i,∃ e:Exm,i < n->∃ q o,p=some ⟨q,o,none⟩/\ExAt W q (o+i*3) e:=fun i=>by
  by_cases D:i < n
  ·obtain ⟨q,o,e,I⟩:=h i D;exact ⟨e,fun _=>⟨q,o,I⟩⟩
  ·exact ⟨([],[],0),fun E=>absurd E D⟩
 obtain ⟨f,hf⟩:=Classical.axiomOfChoice H;refine ⟨(List.range n).map f,by simp,fun i D=>?_⟩
 have e:exA ((List.range n).map f) i=f i:=by
  unfold exA;rw [List.getD_eq_getElem?_getD,List.getElem?_map,List.getElem?_range D];rfl
 rw [e];exact hf i D
theorem open_exs {H:Type} {enc:TypeId×Value->H} {P:Program} {W:World} {t e e0 e1:TypeId} {f0 V R:Field} {a:Option Addr} {n c:Nat} {d:DataW H} {ps:List MemPlace}
  (ht:P.underlying t=some (.slice e)) (he:P.underlying e=some (.struct #[f0,V,R])) (ce:P.cellsOf e=3)
  (o0:f0.offset=0) (o1:V.offset=1) (o2:R.offset=2) (c0:P.cellsOf f0.type=1) (c1:P.cellsOf V.type=1) (c2:P.cellsOf R.type=1)
  (s0:P.underlying f0.type=some (.slice e0)) (r0:P.underlying e0=some (.int .i64)) (k0:P.cellsOf e0=1)
  (s1:P.underlying V.type=some (.slice e1)) (r1:P.underlying e1=some (.int .i64)) (k1:P.cellsOf e1=1)
  (u2:P.underlying R.type=some (.int .i64))
  (h:DataW.Trod enc P W 0 (fun _=>true) true t (.slice a n c) d ps):∃ l,ExsN W a n c l:=by
 obtain ⟨fuel,hf⟩:=h;rcases open_slice ht hf with ⟨I,_⟩|⟨x,ap,cap,m,fu,D,Pl,I,hb,hl,hm,ah,_,hx⟩
 ·simp [Value.cells] at I;obtain ⟨rfl,rfl,rfl⟩:=I;exact ⟨[],Nat.le_refl _,by omega,rfl,fun i hi=>by omega⟩
 ·simp [Value.cells] at I;obtain ⟨rfl,rfl,rfl⟩:=I
  have af:∃ l,ExR W (some x) n l:=s_k fun i hi=>by
   have aq:n<=m:=by rw [ah];split <;> omega
   obtain ⟨ar,h1,h2⟩:=hx i (by omega);rw [ce] at h1;obtain ⟨_,ad,E⟩:=World.cells?_some h1;obtain ⟨xs,fk,_,_,_,aj,M⟩:=DataW.trod_struct he h2;obtain ⟨y0,y1,y2,rfl⟩:=k_Y aj;obtain ⟨v0,v1,v2,rfl⟩:=k_Y ad;have t0:=M 0 f0 rfl;have t1:=M 1 V rfl;have t2:=M 2 R rfl;simp [o0,c0] at t0;simp [o1,c1] at t1;simp [o2,c2] at t2;obtain ⟨z2,O,_,w2⟩:=DataW.trod_int u2 t2;obtain ⟨pd,nd,cd,ed⟩:=slice_form s0 t0;obtain ⟨pv,nv,cv,ev⟩:=slice_form s1 t1;simp only [List.cons.injEq,and_true] at O ed ev;subst O ed ev;obtain ⟨zd,ag⟩:=open_rowN (d:=y0.1) (ps:=y0.2) s0 r0 k0 ⟨fk,t0⟩;obtain ⟨zv,am⟩:=open_rowN (d:=y1.1) (ps:=y1.2) s1 r1 k1 ⟨fk,t1⟩;have U:=E 0 (by omega);have aa:=E 1 (by omega);have ab:=E 2 (by omega);rw [add_add] at U aa ab
   have ex:x=⟨x.block,x.off,none⟩:=by
    obtain ⟨au,ac,_⟩:=hx 0 (by omega);rw [ce] at ac;obtain ⟨_,L,J⟩:=World.cells?_some ac;obtain ⟨ai,ao,an,rfl⟩:=k_Y L;have h0:=J 0 (by omega);rw [add_add,Nat.zero_mul] at h0;have ae:x.add (0+0)=x:=by simp [Addr.add]
    rw [ae] at h0;exact c_1 (v:=ai) (by simpa using h0)
   have hs:∀ j v,W.cell? (x.add j)=some v->x=⟨x.block,x.off,none⟩/\W.cell? ⟨x.block,x.off+j,none⟩=some v:=fun j v hv=>by
    rw [ex,a_u] at hv;exact ⟨ex,hv⟩
   have n0:=hs _ _ (by simpa using U);refine ⟨x.block,x.off,(l_c nd zd,l_c nv zv,z2),by rw [<- n0.1],pd,nd,cd,pv,nv,cv,n0.2,?_,?_,bounds_i64 w2,ag.rowI,am.rowI⟩
   ·rw [Nat.add_assoc];exact (hs _ _ (by simpa using aa)).2
   ·rw [Nat.add_assoc];exact (hs _ _ (by simpa using ab)).2
  obtain ⟨l,ak⟩:=af;exact ⟨l,hl,by unfold maxLen at hm;omega,ak⟩
/-- Wides that are read. -/
def WdR (W:World) (p:Option Addr) (n:Nat) (l:List Int):Prop:=l.length=n/\(∀ y,y∈l->InW y)/\∀ i,i < n->∃ q o,p=some ⟨q,o,none⟩/\W.cell? ⟨q,o+i*2,none⟩=some (.int .i64 (l.getD i 0 / 18446744073709551616))/\W.cell? ⟨q,o+i*2+1,none⟩=some (.int .u64 (l.getD i 0 % 18446744073709551616))
theorem WdR.up {W W':World} {p:Option Addr} {n:Nat} {l:List Int} (h:WdR W p n l) (D:Below W.heap.size W W'):WdR W' p n l:=⟨h.1,h.2.1,fun i E=>by
 obtain ⟨q,o,e,a,b⟩:=h.2.2 i E;exact ⟨q,o,e,keep D a,keep D b⟩⟩
end Go.Proofs.YtjlofobnmjompaaGreatDoor.Wd
namespace Go.Proofs.YtjlofobnmjompaaGreatDoor.Wd
open Go.RowKit
theorem LyO.low {W:World} {B E:Nat} {v:Value} {ls:List Ly} (h:LyO W B v ls) (I:E<=B):LyO W E v ls:=⟨h.1,h.2.imp id fun ⟨g,cap,D,H,L,J⟩=>⟨g,cap,D,H,Nat.le_trans I L,J⟩⟩
/-- A slice of layers of the call's own, by its elements' type. -/
def LyE (e:TypeId) (W:World) (B:Nat) (v:Value) (ls:List Ly):Prop:=W.ownsRow B e 3 v ls.length (ls.flatMap lyC)
theorem LyE.rd {e:TypeId} {W:World} {B:Nat} {v:Value} {ls:List Ly} (h:LyE e W B v ls):∃ p c,v = .slice p ls.length c/\LyR 0 W p ls.length ls:=by
 have J:=h;rcases h.2 with ⟨rfl,M⟩|⟨g,cap,I,rfl,R,U,O⟩
 ·exact ⟨none,0,by rw [M],rfl,fun i E=>by omega⟩
 ·refine ⟨_,cap,rfl,rfl,fun i E=>?_⟩
  have D:∀ k,k < 3->∀ v,(lyC (lyA ls i))[k]?=some v->W.cell? ⟨g,0+i*3+k,none⟩=some v:=fun k H v L=>by
   have:=World.ownsRow.cells J rfl (i*3+k) v ((r_5 ls i k E H).trans L);rw [a_u,<- Nat.add_assoc] at this;exact this
  exact ⟨g,0,rfl,D 0 (by omega) _ rfl,D 1 (by omega) _ rfl,D 2 (by omega) _ rfl⟩
theorem LyE.up {e:TypeId} {W W':World} {B:Nat} {v:Value} {ls:List Ly} (h:LyE e W B v ls) (D:Below W.heap.size W W'):LyE e W' B v ls:=a_z (S:=[]) h (Only.of D) (by simp)
theorem t_j:GT Tryz.prog 73 113 3 32:=⟨Tryz.underlying73,by kernel_rfl⟩
theorem s_l (w:World) (a b c:Obj):(((w.alloc a).alloc b).alloc c).heap[w.heap.size]?=some a/\(((w.alloc a).alloc b).alloc c).heap[w.heap.size+1]?=some b/\(((w.alloc a).alloc b).alloc c).heap[w.heap.size+2]?=some c/\Below w.heap.size w (((w.alloc a).alloc b).alloc c):=by
 have J:(w.alloc a).heap.size=w.heap.size+1:=by simp
 have H:((w.alloc a).alloc b).heap.size=w.heap.size+2:=by simp
 have I:=heap_alloc_new w a;have E:=heap_alloc_new (w.alloc a) b;have D:=heap_alloc_new ((w.alloc a).alloc b) c;rw [J] at E;rw [H] at D;refine ⟨?_,?_,D,g_a (g_a (a_b _ _) _) _⟩
 ·rw [(a_b ((w.alloc a).alloc b) c).block _ (by omega),(a_b (w.alloc a) b).block _ (by omega)];exact I
 ·rw [(a_b ((w.alloc a).alloc b) c).block _ (by omega)];exact E
theorem o_P (ls:List Ly) (k:Nat) (D:k < ls.length):(ls.take (k+1)).flatMap lyC=(ls.take k).flatMap lyC++[.string (lyA ls k).1,.int .i64 (lyA ls k).2.1,.int .i64 (lyA ls k).2.2]:=by
 have e:lyA ls k=ls[k]:=by unfold lyA;rw [List.getD_eq_getElem?_getD,List.getElem?_eq_getElem D];rfl
 rw [List.take_succ_eq_append_getElem D,List.flatMap_append,e];simp [lyC]
theorem q_Y (p p2:Option Addr) (n c D c2:Nat) (ls:List Ly) (ax:D<=1073741823) (w:World) (hL:LyR 0 w p2 D ls):
  Calls Tryz.prog 28 #[.agg #[.slice p n c,.slice p2 D c2]] w fun e w'=>∃ p3 c3,e = .returned (.agg #[.slice p n c,.slice p3 D c3])/\LyE 113 w' w.heap.size (.slice p3 D c3) ls/\Below w.heap.size w w':=by
 haveI:Nonempty World:=⟨w⟩
 have HL:Hid (LyR 0 w p2 D ls):=hL;clear hL;go_enter Tryz.func28,Tryz.ntmps28;go_wp2_with fail
 generalize ag:World.alloc _ _=W0
 have HX:Hid (W0.heap[w.heap.size]?=some (.cells #[.slice p n c,.slice p2 D c2] 33 (0,0))/\W0.heap[w.heap.size+1]?=some (.cells #[.slice none 0 0,.slice none 0 0] 75 (0,0))/\W0.heap[w.heap.size+2]?=some (.cells #[.slice p n c,.slice none 0 0] 75 (0,0))/\Below w.heap.size w W0):=by
  rw [<- ag];exact s_l w _ _ _
 clear ag
 go_loopg [4] D (fun gg v wr=>∃ (k:Nat) (vL:Value),k<=D/\gg=D - k/\v = .int .i64 (k:Int)/\Hid (wr.heap[w.heap.size]?=some (.cells #[.slice p n c,.slice p2 D c2] 33 (0,0))/\wr.heap[w.heap.size+1]?=some (.cells #[.slice none 0 0,.slice none 0 0] 75 (0,0))/\wr.heap[w.heap.size+2]?=some (.cells #[.slice p n c,vL] 75 (0,0))/\Below w.heap.size w wr)/\Hid (wr.ownsRow w.heap.size 113 3 vL k ((ls.take k).flatMap lyC)))
 case atStart=>exact ⟨0,.slice none 0 0,by omega,by omega,rfl,HX,⟨rfl,.inl ⟨rfl,rfl⟩⟩⟩
 case round=>
  obtain ⟨k,vL,hk,hg,rfl,E,H⟩:=hrel
  obtain ⟨L,I,rfl⟩:∃ L I,vL = .slice L k I:=by
   rcases H.out.2 with ⟨rfl,h0⟩|⟨g,cap,az,rfl,_⟩
   ·exact ⟨none,0,by rw [h0]⟩
   ·exact ⟨_,_,rfl⟩
  obtain ⟨⟨b0,_⟩,⟨b1,_⟩⟩:=e_n E.out.1;have aA:=a_g b1;by_cases ab:k < D
  ·have aC:(k:Int) < (D:Int):=by omega
   obtain ⟨q,o,rfl,c0,c1,ap⟩:=(HL.out.up E.out.2.2.2).2 k ab;have ah:k < ls.length:=by rw [HL.out.1];exact ab
   obtain ⟨l,el⟩:∃ l,lyA ls k=l:=⟨_,rfl⟩
   obtain ⟨s,a,b⟩:=l
   have HT:Hid ((ls.take (k+1)).flatMap lyC=(ls.take k).flatMap lyC++[.string s,.int .i64 a,.int .i64 b]):=by
    have:=o_P ls k ah;rw [el] at this;exact this
   rw [el] at c0 c1 ap;have ay:=a_g c0;have ak:Hid (∀ z,Value.ownBlock (.slice L k I)=some z->z < wr.heap.size):=fun z aw=>(World.ownsRow.lt H.out z aw).2;have ac:Hid (w.heap.size<=wr.heap.size):=E.out.2.2.2.size;have HG:Hid (∀ W,wr.grownBy W (Value.ownBlock (.slice L k I))->Only [113] wr W/\Below w.heap.size w W):=fun W V=>⟨g_r H.out V,Below.grown E.out.2.2.2 V ac.out fun k hk=>(World.ownsRow.lt H.out k hk).1⟩
   have HQ:Hid (∀ W,wr.grownBy W (Value.ownBlock (.slice L k I))->W.cell? ⟨w.heap.size+2,1,none⟩=some (.slice L k I)/\W.cell? ⟨w.heap.size,1,none⟩=some (.slice (some ⟨q,o,none⟩) D c2)/\W.cell? ⟨q,o+k*3,none⟩=some (.string s)/\W.cell? ⟨q,o+k*3+1,none⟩=some (.int .i64 a)/\W.cell? ⟨q,o+k*3+2,none⟩=some (.int .i64 b)):=fun W V=>by
    obtain ⟨h1,h2⟩:=HG.out W V;obtain ⟨q',o',e,d0,d1,d2⟩:=(HL.out.up h2).2 k ab;cases e;rw [el] at d0 d1 d2;exact ⟨(e_n (h1.keep E.out.2.2.1 (by decide))).2.1,(e_n (h1.keep E.out.1 (by decide))).2.1,d0,d1,d2⟩
   clear el;go_wp2;refine d_R (by kernel_rfl) ?_;refine seg (fun q W=>match q with|false=>Below wr.heap.size wr W|true=>wr.grownBy W (Value.ownBlock (.slice L k I))) (fun W W'=>W.grownBy W' (Value.ownBlock (.slice L k I))) 22 [⟨21,36,LitS 113 wr.heap.size [.string s,.int .i64 a,.int .i64 b]⟩,⟨22,37,OwnG 113 3 w.heap.size (k+1) (((ls.take k).flatMap lyC)++[.string s,.int .i64 a,.int .i64 b])⟩] 0 24 40 rfl rfl (by kernel_rfl) (by rfl) ?_ ?_ ?_ ?_ ?_ ?_
   ·intro q W W' h hb;cases q
    ·exact a_c h hb
    ·exact g_M h hb
   ·exact ⟨rfl,rfl,rfl,Nat.le_refl _,fun _ _=>rfl⟩
   ·exact .inl ⟨_,List.mem_cons_of_mem _ List.mem_cons_self,rfl⟩
   ·intro e he v W W' h hb;simp only [List.mem_cons,List.not_mem_nil,or_false] at he;rcases he with rfl|rfl
    ·exact LitS.up h hb
    ·exact OwnG.up h hb
   ·intro e he am v W W' h hc ht;simp only [List.mem_cons,List.not_mem_nil,or_false] at he;rcases he with rfl|rfl
    ·exact LitS.grown h ht ak.out
    ·exact absurd rfl am
   apply Exists.intro;refine ⟨fun x=>?_,?_,?_⟩
   ·simp only [List.drop_succ_cons,List.drop_zero,List.take_succ_cons,List.take_zero]
    iterate 21
     refine b_P rfl rfl ?_;apply Exists.intro;refine ⟨fun b' F hF hf K hK=>?_,?_⟩
     ·have hFc:=hF.cls
      have q:=fun d=>HQ.out (F d) (by
       cases b'
       ·exact b_f _ (hFc d)
       ·exact hFc d)
      have q1:=fun d=>(q d).1;have q2:=fun d=>(q d).2.1;have q3:=fun d=>(q d).2.2.1;have q4:=fun d=>(q d).2.2.2.1;have q5:=fun d=>(q d).2.2.2.2;clear hFc q
      go_big_quiet_op
      first|exact hK|(apply Exists.intro;refine ⟨fun _=>?_,?_⟩;(· fail);exact hK)
     (try simp only [Act.put,sA_,sB_,sC_])
    refine i_I rfl (by decide) rfl ?_ ?_
    ·intro b' F hF hf d;have hFc:=hF.cls
     have ai:wr.heap.size<=(F d).heap.size:=by
      cases b'
      ·exact (hFc d).size
      ·exact (hFc d).size
     simp [a_j,a_f,go_sem];exact ⟨⟨(F d).heap.size,rfl,heap_alloc_new (F d) _,ai⟩,a_b _ _⟩
    (try simp only [Act.put,sA_,sB_,sC_])
    refine i_J rfl rfl rfl ?_ ?_
    ·intro W V hf;have h7:=hf _ List.mem_cons_self (by rfl) W;obtain ⟨g7,e7,av,_⟩:=h7;simp only [] at e7;obtain ⟨R,M,w8,ao,aq,aa⟩:=r_6 t_j (by decide) (by decide) 73 W w.heap.size (.slice L k I) k ((ls.take k).flatMap lyC) (a_z (S:=[]) H.out (Only.of V) (by simp)) g7 [.string s,.int .i64 a,.int .i64 b] av rfl (fun x hx=>by simp at hx;rcases hx with rfl|rfl|rfl <;> rfl) (by omega) (Nat.le_trans ac.out (Below.size V));simp [d_f,c_A,execOp,resolve,invoke,builtin,Act.eval,e7,ao,Result.andThen];exact ⟨⟨R,M,rfl,aq⟩,d_Q (b_f _ V) aa,aa⟩
    (try simp only [Act.put,sA_,sB_,sC_])
    refine b_P rfl rfl ?_;apply Exists.intro;refine ⟨fun b' F hF hf K hK=>?_,?_⟩
    ·have hFc:=hF.cls
     have q:=fun d=>HQ.out (F d) (by
      cases b'
      ·exact b_f _ (hFc d)
      ·exact hFc d)
     have q1:=fun d=>(q d).1;have q2:=fun d=>(q d).2.1;have q3:=fun d=>(q d).2.2.1;have q4:=fun d=>(q d).2.2.2.1;have q5:=fun d=>(q d).2.2.2.2;clear hFc q
     go_big_quiet_op
     first|exact hK|(apply Exists.intro;refine ⟨fun _=>?_,?_⟩;(· fail);exact hK)
    (try simp only [Act.put,sA_,sB_,sC_])
    refine m_v ?_;exact rfl
   ·exact fun x=>rfl
   ·intro w8 ad ae af;refine f_G 24 (by kernel_rfl) ?_;simp only [List.drop_succ_cons,List.drop_zero];have h8:=af _ (List.mem_cons_of_mem _ List.mem_cons_self);obtain ⟨x5,e5⟩:∃ z,ad 21=z:=⟨_,rfl⟩
    obtain ⟨x6,e6⟩:∃ z,ad 22=z:=⟨_,rfl⟩
    simp only [e6] at h8;simp only [e5,e6];obtain ⟨R,M,rfl,h8⟩:=h8;have J:=HG.out w8 ae;have O:=J.1.keep E.out.2.2.1 (by decide);obtain ⟨_,⟨r0,r1⟩⟩:=e_n O
    have HF:Hid ((w8.setCell ⟨w.heap.size+2,1,none⟩ (.slice (some ⟨R,0,none⟩) (k+1) M)).heap[w.heap.size]?=some (.cells #[.slice p n c,.slice (some ⟨q,o,none⟩) D c2] 33 (0,0))/\(w8.setCell ⟨w.heap.size+2,1,none⟩ (.slice (some ⟨R,0,none⟩) (k+1) M)).heap[w.heap.size+1]?=some (.cells #[.slice none 0 0,.slice none 0 0] 75 (0,0))/\(w8.setCell ⟨w.heap.size+2,1,none⟩ (.slice (some ⟨R,0,none⟩) (k+1) M)).heap[w.heap.size+2]?=some (.cells #[.slice p n c,.slice (some ⟨R,0,none⟩) (k+1) M] 75 (0,0))/\Below w.heap.size w (w8.setCell ⟨w.heap.size+2,1,none⟩ (.slice (some ⟨R,0,none⟩) (k+1) M))):=by
     refine ⟨?_,?_,?_,J.2.setCell (p:=⟨w.heap.size+2,1,none⟩) (Nat.le_add_right _ _) _⟩
     ·rw [a_U _ _ _ _ _ (by omega)];exact J.1.keep E.out.1 (by decide)
     ·rw [a_U _ _ _ _ _ (by omega)];exact J.1.keep E.out.2.1 (by decide)
     ·rw [a_n O];rfl
    have ar:Hid ((w8.setCell ⟨w.heap.size+2,1,none⟩ (.slice (some ⟨R,0,none⟩) (k+1) M)).ownsRow w.heap.size 113 3 (.slice (some ⟨R,0,none⟩) (k+1) M) (k+1) ((ls.take (k+1)).flatMap lyC)):=by
     show World.ownsRow _ _ _ _ _ _ _;rw [HT.out];exact a_z (S:=[75]) h8 (Only.set O (by simp)) (by decide)
    clear J O h8 af ae e5 e6;go_wp2;go_roundg (D - (k+1))
    case measure=>omega
    case rel=>exact ⟨k+1,_,by omega,rfl,by first|rfl|simp,HF,ar⟩
  ·obtain rfl:k=D:=by omega
   obtain ⟨⟨d0,aD⟩,⟨d1,aB⟩⟩:=e_n E.out.2.1;obtain ⟨⟨f0,_⟩,⟨f1,_⟩⟩:=e_n E.out.2.2.1;have kd:=a_g d0;have kf:=a_g f0;go_wp2;generalize hU:World.setCell _ _ _=U;obtain ⟨u0,u1,au,an⟩:=q_P E.out.2.1 hU
   have aj:LyE 113 U w.heap.size (.slice L k I) ls:=by
    have:=a_z H.out an (by decide);rw [List.take_of_length_le (by rw [HL.out.1];exact Nat.le_refl _)] at this;unfold LyE;rw [HL.out.1];exact this
   exact bodyPost_ret (v:=.agg #[.slice p n c,.slice L k I]) (by simp [results,Tryz.results28,go_sem,u0,u1]) rfl ⟨_,_,rfl,aj,au w _ (by omega) E.out.2.2.2⟩
end Go.Proofs.YtjlofobnmjompaaGreatDoor.Wd
