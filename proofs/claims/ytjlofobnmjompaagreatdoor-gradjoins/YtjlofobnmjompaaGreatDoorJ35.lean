/- The code's Run. · Gradients of examples: what Run leaves may be swept back; which nodes are the parameters' own, and that they hold them all. · Gradients of examples: a loss by its kind, and what Of, Sum, Join tell. · A struct of two slices of integers that came in by value (a tensor): what a walk is told of it. Nothing of the program is named here. · A slice of calls that came in (structs of four integers and a tensor): what a walk is told of it. Nothing of the program is named here. · A net that came in by value (a slice of integers and a slice of structs of a string and two integers): what  -/
import Derived.Test.YtjlofobnmjompaaGreatDoorJ34
import Derived.Test.YtjlofobnmjompaaGreatDoorJ25
import Derived.Test.YtjlofobnmjompaaGreatDoorJ00
import Derived.Lib.SmallJoins
import Derived.Deep.Slices
import Derived.ChangeSame
import Derived.Test.YtjlofobnmjompaaGreatDoorJ26
import Derived.Test.YtjlofobnmjompaaGreatDoorJ28
set_option linter.unusedVariables false
set_option linter.unusedSimpArgs false
set_option maxHeartbeats 16000000
set_option maxRecDepth 16000
namespace Go.Proofs.YtjlofobnmjompaaGreatDoor.Wd
open Go.RowKit Fx
theorem spA_mem {sts:List Sp} {i:Nat} (h:i < sts.length):spA sts i∈sts:=by
 unfold spA
 rw [List.getD_eq_getElem?_getD,List.getElem?_eq_getElem h]
 exact List.getElem_mem h
theorem RI.nil:RI []:=fun y h=>by simp at h
theorem RI.takes {l:List Int} (h:RI l) (n:Nat):RI (l.take n):=fun y hy=>h y (List.mem_of_mem_take hy)
theorem RI.drops {l:List Int} (h:RI l) (n:Nat):RI (l.drop n):=fun y hy=>h y (List.mem_of_mem_drop hy)
theorem spD_ok {op a b k:Int} (h1:1≤op∧op≤14) (ha:0≤a∧a≤1000) (hb:0≤b∧b≤1000) (hk:0≤k∧k≤1000):SpOk (spD op a b k):=⟨ha,hb,hk,h1,RI.nil,RI.nil⟩
theorem spL_ok {D X:List Int} {q:Bool} (hD:RI D) (hX:RI X):SpOk ⟨1,0,0,0,D,X,q⟩:=⟨show (0:Int)≤0∧(0:Int)≤1000 by omega,show (0:Int)≤0∧(0:Int)≤1000 by omega,show (0:Int)≤0∧(0:Int)≤1000 by omega,show (1:Int)≤1∧(1:Int)≤14 by omega,hD,hX⟩
theorem par_ri {l:Ly} {d:List Int} (hl:LayOk l) (hd:InOk d):∀ j,RI (shA (parD l d) j):=fun j=>by
 have hp:=hd.prod
 have h0:0≤d.getD 0 0∧d.getD 0 0≤1024:=by rcases hd with ⟨x,rfl,h⟩|⟨x,y,rfl,hx,hy⟩ <;> simp <;> omega
 unfold parD
 rcases layOk_cases hl with ⟨-,k,g1,g2⟩|⟨-,k,g1,g2⟩|⟨-,k,g1,g2⟩|⟨-,k,g1,g2⟩|⟨-,k,g1,g2⟩ <;> rw [k]
 ·match j with
  | 0=>intro y hy;simp [shA] at hy;omega
  | 1=>intro y hy;simp [shA] at hy;omega
  | j+2=>intro y hy;simp [shA] at hy
 ·match j with
  | 0=>intro y hy;simp [shA] at hy;simp at h0;omega
  | j+1=>intro y hy;simp [shA] at hy
 all_goals intro y hy;simp [shA] at hy
theorem prS_ok {PP:List (List Int)} {rest:List Int} (hP:∀ j,RI (shA PP j)) (hr:RI rest):∀ j,(∀ st,st∈(prS PP rest j).1→SpOk st)∧RI (prS PP rest j).2
 | 0=>⟨fun st h=>by simp [prS] at h,hr⟩
 | j+1=>by
  obtain ⟨h1,h2⟩:=prS_ok hP hr j
  refine ⟨fun st h=>?_,h2.drops _⟩
  simp only [prS,List.mem_append,List.mem_cons,List.not_mem_nil,or_false] at h
  rcases h with h|rfl
  ·exact h1 st h
  ·exact spL_ok (hP j) (h2.takes _)
theorem layS_ok {l:Ly} {d:List Int} (hl:LayOk l) (hd:InOk d) {N:Nat} (hN:N≤200) {rest:List Int} (hr:RI rest) {bf last:Int} (hb:0≤bf∧bf≤300) (ha:0≤last∧last≤300):(∀ st,st∈layS l d N rest bf last→SpOk st)∧RI (layR l d rest)∧layN l d N≤N+5:=by
 obtain ⟨h1,h2⟩:=prS_ok (par_ri hl hd) hr (parD l d).length
 refine ⟨fun st h=>?_,h2,?_⟩
 ·unfold layS at h
  rw [List.mem_append] at h
  rcases h with h|h
  ·exact h1 st h
  ·rcases layOk_cases hl with ⟨-,k,g1,g2⟩|⟨-,k,g1,g2⟩|⟨-,k,g1,g2⟩|⟨-,k,g1,g2⟩|⟨-,k,g1,g2⟩ <;> rw [k] at h
   ·simp only [if_true] at h
    unfold denS at h
    split at h <;> simp only [List.mem_cons,List.not_mem_nil,or_false] at h
    ·rcases h with rfl|rfl|rfl|rfl <;> refine spD_ok ?_ ?_ ?_ ?_ <;> omega
    ·rcases h with rfl|rfl|rfl <;> refine spD_ok ?_ ?_ ?_ ?_ <;> omega
   all_goals
    simp at h
    subst h
    refine spD_ok ?_ ?_ ?_ ?_ <;> omega
 ·unfold layN denN
  split
  ·split <;> omega
  ·split <;> omega
theorem plF_ok {d:List Int} {ls:List Ly} {S:List (List Int)} {P X:List Int} (ok:NetOk d ls S) (h16:ls.length≤16) (hd:RI d) (hP:RI P) (hX:RI X):∀ i,i≤ls.length→(∀ st,st∈(plF d ls S P X i).1→SpOk st)∧RI (plF d ls S P X i).2.1∧(0≤(plF d ls S P X i).2.2.1∧(plF d ls S P X i).2.2.1≤300)∧0≤(plF d ls S P X i).2.2.2∧(plF d ls S P X i).2.2.2≤300
 | 0,_=>by
  refine ⟨fun st h=>?_,hP,by simp [plF],by simp [plF],by simp [plF]⟩
  simp only [plF,List.mem_cons,List.not_mem_nil,or_false] at h
  subst h
  exact spL_ok hd hX
 | i+1,hi=>by
  obtain ⟨h1,h2,h3,h4⟩:=plF_ok ok h16 hd hP hX i (by omega)
  have hN:=plF_few d ls S P X i
  obtain ⟨g1,g2,g3⟩:=layS_ok (ok.lay i (by omega)) (ok.inn i (by omega)) (N:=(plF d ls S P X i).1.length) (by omega) h2 h3 h4
  refine ⟨fun st h=>?_,g2,h4,?_,?_⟩
  ·simp only [plF,List.mem_append] at h
   rcases h with h|h
   ·exact h1 st h
   ·exact g1 st h
  ·simp only [plF];omega
  ·simp only [plF];omega
/-- What Run makes: an error, the nodes, the last one, the parameters' nodes. -/
def rnF (d:List Int) (ls:List Ly) (ns:List Nd) (P X:List Int):Int×List Nd×Int×List Int:=
 if nE d ls=0 then
  if (P.length:Int)=cntP ls (nS d ls) ls.length∧(X.length:Int)=prodI d then
   if ns.length+(plF d ls (nS d ls) P X ls.length).1.length≤512 then
    ((pyF ns.length (plF d ls (nS d ls) P X ls.length).1 ns (plF d ls (nS d ls) P X ls.length).1.length).1,(pyF ns.length (plF d ls (nS d ls) P X ls.length).1 ns (plF d ls (nS d ls) P X ls.length).1.length).2.1,(if (pyF ns.length (plF d ls (nS d ls) P X ls.length).1 ns (plF d ls (nS d ls) P X ls.length).1.length).1=0 then (pyF ns.length (plF d ls (nS d ls) P X ls.length).1 ns (plF d ls (nS d ls) P X ls.length).1.length).2.2.1 else 0),(if (pyF ns.length (plF d ls (nS d ls) P X ls.length).1 ns (plF d ls (nS d ls) P X ls.length).1.length).1=0 then (pyF ns.length (plF d ls (nS d ls) P X ls.length).1 ns (plF d ls (nS d ls) P X ls.length).1.length).2.2.2 else []))
   else (2,ns,0,[])
  else (1,ns,0,[])
 else (nE d ls,ns,0,[])
theorem TapC.rn {B B' tb:Nat} {W W':World} {ns:List Nd} (h:TapC W B tb ns) (hR:Rn B' W W'):TapC W' B tb ns:=Tap.only h hR.onl (by decide) (by decide) (by decide) (by decide)
theorem InOk.ri {d:List Int} (h:InOk d):RI d:=by
 rcases h with ⟨x,rfl,h⟩|⟨x,y,rfl,hx,hy⟩ <;> intro z hz <;> simp at hz <;> omega
theorem Run_any (B tb:Nat) (ns:List Nd) (hG:NodesG ns) (hns:ns.length≤512) (d:List Int) (ls:List Ly) (P X:List Int) (hP:RI P) (hX:RI X) (hRk:nE d ls=0→∀ st,st∈(plF d ls (nS d ls) P X ls.length).1→st.op≠1→RkC st.op) (p p2 pp px:Option Addr) (n c n2 c2 np cp nx cx:Nat) (hbig:n2≤1073741823) (hPb:P.length≤1073741824) (w:World) (hT:TapC w B tb ns) (hTz:Hid (∀ W,Below B w W→Tz W)) (hKz:Hid (Kz w)) (hIn:Kept B w (.slice p n c) d) (hLy:∀ W',Rn B w W'→LyR 0 W' p2 n2 ls) (hp:Kept B w (.slice pp np cp) P) (hpc:np≤cp) (hx:Kept B w (.slice px nx cx) X):
  Calls Tryz.prog 22 #[.pointer (some ⟨tb,0,none⟩),.agg #[.slice p n c,.slice p2 n2 c2],.slice pp np cp,.slice px nx cx] w fun e w'=>∃ v,e = .returned (.tuple #[.int .i64 (rnF d ls ns P X).2.2.1,v,.int .i64 (rnF d ls ns P X).1])∧OwnK .i64 3 w' w.heap.size v (rnF d ls ns P X).2.2.2∧TapC w' B tb (rnF d ls ns P X).2.1∧Below B w w':=by
 haveI:Nonempty World:=⟨w⟩
 have hBz:B≤w.heap.size:=by
  obtain ⟨hb,_,_,hv,_⟩:=hT
  exact Nat.le_trans hb (Nat.le_of_lt (heap_lt hv))
 obtain ⟨RR,eRR⟩:∃ R,rnF d ls ns P X=R:=⟨_,rfl⟩
 obtain ⟨E,eE⟩:∃ E,nE d ls=E:=⟨_,rfl⟩
 obtain ⟨SS,eS⟩:∃ S,nS d ls=S:=⟨_,rfl⟩
 obtain ⟨sl,esl⟩:∃ sl,SS.length=sl:=⟨_,rfl⟩
 have hnp:P.length=np:=by
  obtain ⟨_,_,_,e,h⟩:=hp.nums.lst
  cases e
  exact h.out.1
 have hnx:X.length=nx:=by
  obtain ⟨_,_,_,e,h⟩:=hx.nums.lst
  cases e
  exact h.out.1
 have HR:Hid (rnF d ls ns P X=RR∧nE d ls=E∧nS d ls=SS∧SS.length=sl∧P.length=np∧X.length=nx):=⟨eRR,eE,eS,esl,hnp,hnx⟩
 have cS:Hid (∀ W,Below w.heap.size w W→Calls Tryz.prog 36 #[.agg #[.slice p n c,.slice p2 n2 c2]] W fun e w'=>∃ ps cs,e = .returned (.tuple #[.slice ps sl cs,.int .i64 E])∧OwnS w' W.heap.size (.slice ps sl cs) SS∧Below W.heap.size W w'):=fun W hW=>by
  have:=Shapes_any p p2 n c n2 c2 d ls hbig W (Hid.up_kz hKz hW) (hIn.nums.up hW) ((hLy w (Rn.refl _ _)).up hW)
  rw [eE,eS,esl] at this
  exact this
 have HK:Hid (B≤w.heap.size∧TapC w B tb ns∧NodesG ns∧ns.length≤512∧Kept B w (.slice p n c) d∧(∀ W',Rn B w W'→LyR 0 W' p2 n2 ls)∧Kept B w (.slice pp np cp) P∧np≤cp∧Kept B w (.slice px nx cx) X∧P.length≤1073741824∧RI P∧RI X∧n2≤1073741823):=⟨hBz,hT,hG,hns,hIn,hLy,hp,hpc,hx,hPb,hP,hX,hbig⟩
 have HRK:Hid (E=0→∀ st,st∈(plF d ls SS P X ls.length).1→st.op≠1→RkC st.op):=by
  show _→_
  rw [← eE,← eS]
  exact hRk
 rw [eRR]
 clear eRR eE eS esl hnp hnx hIn hLy hp hpc hx hPb hP hX hT hG hns hRk hKz hBz hbig
 go_enter Tryz.func22,Tryz.ntmps22
 go_wp2_with fail
 generalize hW0:World.alloc _ _=W0
 have HB0:Hid (Below w.heap.size w W0):=by rw [← hW0];exact up_alloc w _
 obtain ⟨g0,g1⟩:W0.cell? ⟨w.heap.size,0,none⟩=some (.slice p n c)∧W0.cell? ⟨w.heap.size,1,none⟩=some (.slice p2 n2 c2):=by rw [← hW0];simp [go_sem]
 clear hW0
 refine (cS.out W0 HB0.out).mono ?_
 rintro e w1 ⟨ps,cs,rfl,hoS,hB1⟩
 have HB1:Hid (Below w.heap.size w w1):=bstep HB0.out hB1
 replace g0:=still_cell hB1 g0
 replace g1:=still_cell hB1 g1
 by_cases h0:E=0
 case neg=>
  have hE':(E != 0)=true:=by simpa using h0
  have HRS:Hid (∃ v,Ending.returned (.tuple #[.int .i64 0,.slice none 0 0,.int .i64 E]) = .returned (.tuple #[.int .i64 RR.2.2.1,v,.int .i64 RR.1])∧OwnK .i64 3 w1 w.heap.size v RR.2.2.2∧TapC w1 B tb RR.2.1∧Below B w w1):=by
   have h5:RR=(E,ns,0,[]):=by
    rw [← HR.out.1]
    unfold rnF
    rw [HR.out.2.1,if_neg h0]
   show ∃ _,_
   rw [h5]
   exact ⟨_,rfl,OwnK.nil _ _ _ _,HK.out.2.1.up HB1.out,HB1.out.mono HK.out.1⟩
  clear hoS hB1 cS HR
  go_wp2
  exact bodyPost_ret (v:=.tuple #[.int .i64 0,.slice none 0 0,.int .i64 E]) (by simp [results,Tryz.results22,go_sem]) rfl HRS.out
 subst h0
 obtain ⟨S,hf,hs,ht⟩:=net_good HR.out.2.1
 obtain ⟨_,h4,h5⟩:=nE_ok hf hs ht
 rw [HR.out.2.2.1] at h4
 subst h4
 obtain ⟨p',c',e',hrd⟩:=hoS.rd
 cases e'
 have HOK:Hid (NetOk d ls SS∧InOk d∧ls.length≤16):=⟨NetOk.of hf hs,((formB_iff d ls).1 hf).1,by unfold tooM at ht;simp at ht;omega⟩
 have cc:=countParams_any p p2 ps n c n2 c2 _ cs d ls SS HOK.out.1 (by have:=HK.out.2.2.2.2.2.2.2.2.2.2.2.2;omega) w1 ((HK.out.2.2.2.2.2.1 w (Rn.refl _ _)).up HB1.out) hrd
 obtain ⟨ct,ect⟩:∃ ct,cntP ls SS ls.length=ct:=⟨_,rfl⟩
 rw [ect] at cc
 have HOS:Hid (OwnS w1 W0.heap.size (.slice ps SS.length cs) SS):=hoS
 clear hoS hB1 hf hs ht h5 hrd cS
 go_wp2_with fail
 refine cc.mono ?_
 rintro e w2 ⟨rfl,hB2⟩
 have HB2:Hid (Below w.heap.size w w2):=bstep HB1.out hB2
 have HOS2:Hid (OwnS w2 0 (.slice ps SS.length cs) SS):=(HOS.out.up hB2).low (Nat.zero_le _)
 replace g0:=still_cell hB2 g0
 replace g1:=still_cell hB2 g1
 have HCT:Hid (cntP ls SS ls.length=ct):=ect
 have kg:=cell_size g0
 clear hB2 cc HOS ect
 have HEG:Hid (¬ ((P.length:Int)=ct∧(X.length:Int)=prodI d)→∀ W,Below w.heap.size w W→∃ v,Ending.returned (.tuple #[.int .i64 0,.slice none 0 0,.int .i64 1]) = .returned (.tuple #[.int .i64 RR.2.2.1,v,.int .i64 RR.1])∧OwnK .i64 3 W w.heap.size v RR.2.2.2∧TapC W B tb RR.2.1∧Below B w W):=fun hne W hW=>by
  have h5:RR=(1,ns,0,[]):=by
   rw [← HR.out.1]
   unfold rnF
   rw [HR.out.2.1,HR.out.2.2.1,HCT.out,if_pos rfl,if_neg hne]
  rw [h5]
  exact ⟨_,rfl,OwnK.nil _ _ _ _,HK.out.2.1.up hW,hW.mono HK.out.1⟩
 by_cases hpn:(np:Int)=ct
 case neg=>
  have hpn':((np:Int) != ct)=true:=by simpa using hpn
  have HRS:Hid _:=HEG.out (fun h=>hpn (by rw [← HR.out.2.2.2.2.1];exact h.1)) w2 HB2.out
  clear HEG hpn
  go_wp2
  exact bodyPost_ret (v:=.tuple #[.int .i64 0,.slice none 0 0,.int .i64 1]) (by simp [results,Tryz.results22,go_sem]) rfl HRS.out
 have hpn':((np:Int) != ct)=false:=by simpa using hpn
 have cz:=csize_any (.slice p n c) d HOK.out.2.1.smal w2 (HK.out.2.2.2.2.1.nums.up HB2.out)
 obtain ⟨pd,epd⟩:∃ x,prodI d=x:=⟨_,rfl⟩
 rw [epd] at cz
 have HPD:Hid (prodI d=pd∧(np:Int)=ct):=⟨epd,hpn⟩
 clear epd hpn
 go_wp2_with fail
 refine cz.mono ?_
 rintro e w3 ⟨rfl,rfl⟩
 clear cz
 by_cases hxn:(nx:Int)=pd
 case neg=>
  have hxn':((nx:Int) != pd)=true:=by simpa using hxn
  have HRS:Hid _:=HEG.out (fun h=>hxn (by rw [← HR.out.2.2.2.2.2,← HPD.out.1];exact h.2)) w3 HB2.out
  clear HEG hxn
  go_wp2
  exact bodyPost_ret (v:=.tuple #[.int .i64 0,.slice none 0 0,.int .i64 1]) (by simp [results,Tryz.results22,go_sem]) rfl HRS.out
 have hxn':((nx:Int) != pd)=false:=by simpa using hxn
 have HXN:Hid ((nx:Int)=pd):=hxn
 clear hxn HEG
 have HR2:Hid (Rn B w w3):=Rn.of HK.out.1 HB2.out
 have cpl:=planOf_any B d ls SS HOK.out.1 HOK.out.2.2 P X (by rw [HR.out.2.2.2.2.1,HCT.out];exact HPD.out.2) HK.out.2.2.2.2.2.2.2.2.2.1 p p2 ps pp px n c n2 c2 SS.length cs np cp nx cx w3 (Nat.le_trans HK.out.1 HB2.out.size) (HK.out.2.2.2.2.1.up HR2.out) (fun W' hW'=>HK.out.2.2.2.2.2.1 W' (HR2.out.trans hW')) HOS2.out rfl (HK.out.2.2.2.2.2.2.1.up HR2.out) HK.out.2.2.2.2.2.2.2.1 (HK.out.2.2.2.2.2.2.2.2.1.up HR2.out)
 have hfew:=plF_few d ls SS P X ls.length
 have hokp:=(plF_ok HOK.out.1 HOK.out.2.2 HOK.out.2.1.ri HK.out.2.2.2.2.2.2.2.2.2.2.1 HK.out.2.2.2.2.2.2.2.2.2.2.2.1 (P:=P) (X:=X) ls.length (Nat.le_refl _)).1
 obtain ⟨sts,ests⟩:∃ z,(plF d ls SS P X ls.length).1=z:=⟨_,rfl⟩
 rw [ests] at cpl hfew hokp
 have HST:Hid ((plF d ls SS P X ls.length).1=sts∧sts.length≤97∧(∀ st,st∈sts→SpOk st)∧(∀ st,st∈sts→st.op≠1→RkC st.op)):=⟨ests,by have:=HOK.out.2.2;omega,hokp,by have:=HRK.out (by trivial);rw [ests] at this;exact this⟩
 clear hfew hokp ests HOS2
 go_wp2_with fail
 refine cpl.mono ?_
 rintro e w4 ⟨q,m,r,xs,rfl,hm,hrow,hsc,hR4⟩
 have HM:Hid (sts.length=m∧w4.ownsRow B 129 7 (.slice q m r) m xs∧StsC B w4 sts xs∧Rn B w w4):=⟨hm,hrow,hsc,HR2.out.trans hR4⟩
 have hm2:m≤97:=by rw [← hm];exact HST.out.2.1
 have HT4:Hid (TapC w4 B tb ns):=(HK.out.2.1.up HB2.out).rn hR4
 have cln:=clen_any B tb ns w4 HT4.out
 obtain ⟨nl,enl⟩:∃ nl,ns.length=nl:=⟨_,rfl⟩
 have hnl:nl≤512:=by rw [← enl];exact HK.out.2.2.2.1
 rw [enl] at cln
 have HNL:Hid (ns.length=nl):=enl
 clear cpl hm hrow hsc hR4 enl g0 g1 kg HR2
 go_wp2_with fail
 refine cln.mono ?_
 rintro e w5 ⟨rfl,rfl⟩
 clear cln
 by_cases hfit:nl+m≤512
 case neg=>
  have hfit':(512:Int) < (nl:Int)+(m:Int):=by omega
  have HRS:Hid (∃ v,Ending.returned (.tuple #[.int .i64 0,.slice none 0 0,.int .i64 2]) = .returned (.tuple #[.int .i64 RR.2.2.1,v,.int .i64 RR.1])∧OwnK .i64 3 w5 w.heap.size v RR.2.2.2∧TapC w5 B tb RR.2.1∧Below B w w5):=by
   have h5:RR=(2,ns,0,[]):=by
    rw [← HR.out.1]
    unfold rnF
    rw [HR.out.2.1,HR.out.2.2.1,HCT.out,if_pos rfl,if_pos ⟨by rw [HR.out.2.2.2.2.1];exact HPD.out.2,by rw [HR.out.2.2.2.2.2,HPD.out.1];exact HXN.out⟩,HST.out.1,HM.out.1,HNL.out,if_neg hfit]
   show ∃ _,_
   rw [h5]
   exact ⟨_,rfl,OwnK.nil _ _ _ _,HT4.out,HM.out.2.2.2.bel⟩
  clear HR HST HM hfit
  go_wp2
  exact bodyPost_ret (v:=.tuple #[.int .i64 0,.slice none 0 0,.int .i64 2]) (by simp [results,Tryz.results22,go_sem]) rfl HRS.out
 have hfit':¬ (512:Int) < (nl:Int)+(m:Int):=by omega
 have hfit2:(nl:Int)+(m:Int)≤512:=by omega
 have cpy:=play_any B tb ns HK.out.2.2.1 sts (fun i hi=>⟨HST.out.2.2.1 _ (spA_mem hi),HST.out.2.2.2 _ (spA_mem hi)⟩) (by have:=HST.out.2.1;omega) HK.out.2.2.2.1 q m r B xs HM.out.1 w5 HT4.out (by show ∀ W,_;intro W hW;exact hTz.out W (HM.out.2.2.2.bel.trans hW)) HM.out.2.1 HM.out.2.2.1
 have HRE:Hid (RR=((pyF ns.length sts ns m).1,(pyF ns.length sts ns m).2.1,(if (pyF ns.length sts ns m).1=0 then (pyF ns.length sts ns m).2.2.1 else 0),(if (pyF ns.length sts ns m).1=0 then (pyF ns.length sts ns m).2.2.2 else []))):=by
  show _=_
  rw [← HR.out.1]
  unfold rnF
  rw [HR.out.2.1,HR.out.2.2.1,HCT.out,if_pos rfl,if_pos ⟨by rw [HR.out.2.2.2.2.1];exact HPD.out.2,by rw [HR.out.2.2.2.2.2,HPD.out.1];exact HXN.out⟩,HST.out.1,HM.out.1,if_pos (by rw [HNL.out];exact hfit)]
 have cp2:Calls Tryz.prog 41 #[.pointer (some ⟨tb,0,none⟩),.slice q m r] w5 fun e w'=>∃ v,e = .returned (.tuple #[.int .i64 RR.2.2.1,v,.int .i64 RR.1])∧OwnK .i64 3 w' w.heap.size v RR.2.2.2∧TapC w' B tb RR.2.1∧Below B w w':=by
  refine cpy.mono ?_
  rintro e w' ⟨v,h1,h2,h3,h4,_⟩
  rw [HRE.out]
  exact ⟨v,h1,h2.low HM.out.2.2.2.size,h3,HM.out.2.2.2.bel.trans h4⟩
 clear cpy HRE HST HR HM hfit HK HPD HXN HCT HOK HT4 HRK
 go_wp2_with fail
 refine cp2.mono ?_
 rintro e w6 ⟨v6,rfl,h6⟩
 have HF:Hid _:=h6
 clear h6 cp2
 go_wp2
 exact bodyPost_ret (v:=.tuple #[.int .i64 RR.2.2.1,v6,.int .i64 RR.1]) (by simp [results,Tryz.results22,go_sem]) rfl ⟨_,rfl,HF.out⟩
theorem NodesV.st {f:Int} {ns:List Nd} {st:Sp} (h:NodesV ns):NodesV (stN f ns st):=by
 unfold stN
 split
 ·exact h.leaf
 ·exact h.do
theorem NodesK.st {f:Int} {ns:List Nd} {st:Sp} (h:NodesK ns) (hk:InR st.k) (hc:st.op≠1→GvC st.op):NodesK (stN f ns st):=by
 unfold stN
 split
 ·exact h.leaf
 ·rename_i h1
  exact h.do hk (hc h1)
/-- A step that may be played and swept back. -/
structure SpK (st:Sp):Prop where
 k:InR st.k
 g:st.op≠1→GvC st.op
 x:RI st.X
 p:st.par=true→st.op=1
theorem spA_K {sts:List Sp} (h:∀ st,st∈sts→SpK st) (i:Nat):SpK (spA sts i):=by
 by_cases hi:i < sts.length
 ·exact h _ (spA_mem hi)
 ·unfold spA
  rw [List.getD_eq_getElem?_getD,List.getElem?_eq_none (by omega)]
  exact ⟨by show InR 0;unfold InR;omega,fun h=>absurd rfl h,RI.nil,fun h=>by cases h⟩
theorem pyF_all {f:Int} {sts:List Sp} (h:∀ st,st∈sts→SpK st) {ns:List Nd} (hG:NodesG ns) (hV:NodesV ns) (hK:NodesK ns):∀ i,NodesG (pyF f sts ns i).2.1∧NodesV (pyF f sts ns i).2.1∧NodesK (pyF f sts ns i).2.1
 | 0=>⟨hG,hV,hK⟩
 | i+1=>by
  obtain ⟨a,b,c⟩:=pyF_all (f:=f) h hG hV hK i
  have s:=spA_K h i
  unfold pyF
  split
  ·exact ⟨a.st s.x,b.st,c.st s.k s.g⟩
  ·exact ⟨a,b,c⟩
/-- A step that is laid: one node more, which its Leaf holds. -/
theorem st_ok {f:Int} {ns:List Nd} {st:Sp} (h:stE f ns st=0):stR f ns st=(ns.length:Int)∧∃ nd,stN f ns st=ns++[nd]∧(st.op=1→nd.X=st.X):=by
 unfold stE at h
 unfold stR stN
 by_cases h1:st.op=1
 ·rw [if_pos h1] at h ⊢
  rw [if_pos h1]
  unfold leafE at h
  by_cases h2:512≤ns.length
  ·rw [if_pos h2] at h
   cases h
  ·rw [if_neg h2] at h
   by_cases h3:isP st.D st.X
   ·have hc:ns.length < 512∧isP st.D st.X:=⟨by omega,h3⟩
    unfold leafR leafN
    rw [if_pos hc,if_pos hc]
    exact ⟨rfl,_,rfl,fun _=>rfl⟩
   ·rw [if_neg h3] at h
    cases h
 ·rw [if_neg h1] at h ⊢
  rw [if_neg h1]
  unfold doE at h
  by_cases h2:512≤ns.length
  ·rw [if_pos h2] at h
   cases h
  ·rw [if_neg h2] at h
   by_cases h3:okD ns st.op (f+st.a) (f+st.b)
   ·rw [if_pos h3] at h
    have hc:doP ns st.op (f+st.a) (f+st.b) st.k:=⟨⟨by omega,h3⟩,h⟩
    unfold doR doN
    rw [if_pos hc,if_pos hc]
    exact ⟨rfl,_,rfl,fun e=>absurd e h1⟩
   ·rw [if_neg h3] at h
    cases h
theorem fm_congr {α β:Type} {f g:α→List β}:∀ {l:List α},(∀ x,x∈l→f x=g x)→l.flatMap f=l.flatMap g
 | [],_=>rfl
 | x :: l,h=>by
  rw [List.flatMap_cons,List.flatMap_cons,h x (List.mem_cons_self ..),fm_congr fun y hy=>h y (List.mem_cons_of_mem _ hy)]
/-- The numbers that the nodes hold, in a row. -/
def ndX (ns:List Nd) (ps:List Int):List Int:=ps.flatMap fun i=>(ndN ns i).X
def parX (sts:List Sp):List Int:=(sts.filter (·.par)).flatMap (·.X)
theorem parX_app (a b:List Sp):parX (a++b)=parX a++parX b:=by
 unfold parX
 rw [List.filter_append,List.flatMap_append]
theorem ndX_keep {ns:List Nd} {nd:Nd} {ps:List Int} (h:∀ i,i∈ps→0≤i∧i < (ns.length:Int)):ndX (ns++[nd]) ps=ndX ns ps:=by
 unfold ndX
 refine fm_congr fun i hi=>?_
 rw [nd_keep (h i hi)]
theorem take_spA {sts:List Sp} {i:Nat} (hi:i < sts.length):sts.take (i+1)=sts.take i++[spA sts i]:=by
 rw [List.take_add_one,List.getElem?_eq_getElem hi]
 unfold spA
 rw [List.getD_eq_getElem?_getD,List.getElem?_eq_getElem hi]
 rfl
theorem pyF_par_x {f:Int} {sts:List Sp} (h:∀ st,st∈sts→SpK st) {ns:List Nd}:∀ i,i≤sts.length→(pyF f sts ns i).1=0→(pyF f sts ns i).2.1.length=ns.length+i∧(∀ x,x∈(pyF f sts ns i).2.2.2→0≤x∧x < ((pyF f sts ns i).2.1.length:Int))∧ndX (pyF f sts ns i).2.1 (pyF f sts ns i).2.2.2=parX (sts.take i)
 | 0,_,_=>⟨rfl,fun x hx=>by simp [pyF] at hx,rfl⟩
 | i+1,hi,h0=>by
  have s:=spA_K h i
  have e0:(pyF f sts ns i).1=0:=by
   refine Classical.byContradiction fun hn=>?_
   rw [pyF,if_neg hn] at h0
   exact hn h0
  obtain ⟨a,b,c⟩:=pyF_par_x h i (by omega) e0
  rw [pyF,if_pos e0] at h0 ⊢
  dsimp only at h0 ⊢
  obtain ⟨r,nd,e,hx⟩:=st_ok h0
  rw [e,r,List.length_append,List.length_singleton,a]
  rw [take_spA (by omega),parX_app,← c]
  by_cases hp:(spA sts i).par=true
  ·rw [if_pos hp]
   refine ⟨by omega,fun x hx'=>?_,?_⟩
   ·rcases List.mem_append.1 hx' with h2|h2
    ·have:=b x h2
     rw [a] at this
     omega
    ·simp at h2
     omega
   ·have e1:parX [spA sts i]=(spA sts i).X:=by
     unfold parX
     simp [hp]
    have e2:ndX ((pyF f sts ns i).2.1++[nd]) ((pyF f sts ns i).2.2.2++[((ns.length+i:Nat):Int)])=ndX ((pyF f sts ns i).2.1++[nd]) (pyF f sts ns i).2.2.2++nd.X:=by
     have:=nd_last (pyF f sts ns i).2.1 nd
     rw [a] at this
     unfold ndX
     rw [List.flatMap_append]
     simp only [List.flatMap_cons,List.flatMap_nil,List.append_nil]
     rw [this]
    rw [e2,ndX_keep b,e1,hx (s.p hp)]
  ·rw [if_neg hp]
   refine ⟨by omega,fun x hx'=>?_,?_⟩
   ·have:=b x hx'
    rw [a] at this
    omega
   ·have e1:parX [spA sts i] = []:=by
     unfold parX
     simp [hp]
    rw [ndX_keep b,e1,List.append_nil]
/-- The parameters, Leaf by Leaf. -/
theorem prS_x (PP:List (List Int)) (rest:List Int):∀ j,parX (prS PP rest j).1++(prS PP rest j).2=rest
 | 0=>rfl
 | j+1=>by
  have ih:=prS_x PP rest j
  show parX ((prS PP rest j).1++[spL (shA PP j) ((prS PP rest j).2.take (prodI (shA PP j)).toNat)])++(prS PP rest j).2.drop (prodI (shA PP j)).toNat=rest
  rw [parX_app]
  have:parX [spL (shA PP j) ((prS PP rest j).2.take (prodI (shA PP j)).toNat)]=(prS PP rest j).2.take (prodI (shA PP j)).toNat:=by simp [parX]
  rw [this,List.append_assoc,List.take_append_drop]
  exact ih
theorem layS_x (l:Ly) (d:List Int) (N:Nat) (rest:List Int) (bf last:Int):parX (layS l d N rest bf last)++layR l d rest=rest:=by
 unfold layS layR
 rw [parX_app]
 have:parX (if kindI l.1=0 then denS (decide (d.length=2)) (N+2) (N:Int) ((N+1:Nat):Int) last else if kindI l.1=1 then [spD 12 last (N:Int) 1] else if kindI l.1=2 then [spD 13 last 0 l.2.1] else if kindI l.1=3 then [spD 11 last 0 l.2.1] else [spD 2 bf last 0]) = []:=by
  unfold denS
  repeat' split
  all_goals rfl
 rw [this,List.append_nil]
 exact prS_x _ _ _
theorem plF_x (d:List Int) (ls:List Ly) (S:List (List Int)) (P X:List Int):∀ i,parX (plF d ls S P X i).1++(plF d ls S P X i).2.1=P
 | 0=>rfl
 | i+1=>by
  have ih:=plF_x d ls S P X i
  show parX ((plF d ls S P X i).1++layS (lyA ls i) (shA S i) (plF d ls S P X i).1.length (plF d ls S P X i).2.1 (plF d ls S P X i).2.2.1 (plF d ls S P X i).2.2.2)++layR (lyA ls i) (shA S i) (plF d ls S P X i).2.1=P
  rw [parX_app,List.append_assoc,layS_x]
  exact ih
/-- The Ops of a plan. -/
def MdOp (op:Int):Prop:=op=1∨op=2∨op=4∨op=8∨op=11∨op=12∨op=13∨op=14
theorem prS_op (PP:List (List Int)) (rest:List Int):∀ j st,st∈(prS PP rest j).1→st.op=1
 | 0,st,h=>by simp [prS] at h
 | j+1,st,h=>by
  rcases List.mem_append.1 (show st∈(prS PP rest j).1++[spL (shA PP j) ((prS PP rest j).2.take (prodI (shA PP j)).toNat)] from h) with h|h
  ·exact prS_op PP rest j st h
  ·simp at h
   subst h
   rfl
theorem layS_op (l:Ly) (d:List Int) (N:Nat) (rest:List Int) (bf last:Int):∀ st,st∈layS l d N rest bf last→MdOp st.op∧(st.par=true→st.op=1):=by
 intro st h
 unfold layS at h
 rcases List.mem_append.1 h with h|h
 ·exact ⟨.inl (prS_op _ _ _ st h),fun _=>prS_op _ _ _ st h⟩
 ·unfold denS at h
  unfold MdOp
  repeat' split at h
  all_goals
   simp only [List.mem_cons,List.not_mem_nil,or_false] at h
   first
    | (rcases h with h|h|h|h <;> subst h <;> exact ⟨by simp [spD],fun e=>by simp [spD] at e⟩)
    | (rcases h with h|h|h <;> subst h <;> exact ⟨by simp [spD],fun e=>by simp [spD] at e⟩)
    | (subst h;exact ⟨by simp [spD],fun e=>by simp [spD] at e⟩)
theorem plF_op (d:List Int) (ls:List Ly) (S:List (List Int)) (P X:List Int):∀ i st,st∈(plF d ls S P X i).1→MdOp st.op∧(st.par=true→st.op=1)
 | 0,st,h=>by
  simp [plF] at h
  subst h
  exact ⟨.inl rfl,fun e=>rfl⟩
 | i+1,st,h=>by
  rcases List.mem_append.1 (show st∈(plF d ls S P X i).1++layS (lyA ls i) (shA S i) (plF d ls S P X i).1.length (plF d ls S P X i).2.1 (plF d ls S P X i).2.2.1 (plF d ls S P X i).2.2.2 from h) with h|h
  ·exact plF_op d ls S P X i st h
  ·exact layS_op _ _ _ _ _ _ st h
/-- What Run leaves: nodes that may be swept back; the parameters' own hold just them. -/
structure RnO (R:Int×List Nd×Int×List Int) (P:List Int):Prop where
 g:NodesG R.2.1
 v:NodesV R.2.1
 k:NodesK R.2.1
 l:R.2.1.length≤512
 m:R.2.2.2.length≤512
 p:R.1=0→(∀ x,x∈R.2.2.2→0≤x∧x < (R.2.1.length:Int))∧ndX R.2.1 R.2.2.2=P
theorem pyF_len {f:Int} {sts:List Sp} {ns:List Nd} (h:ns.length≤512):∀ i,(pyF f sts ns i).2.1.length≤512
 | 0=>h
 | i+1=>by
  have ih:=pyF_len (f:=f) (sts:=sts) h i
  unfold pyF
  split
  ·show (stN f _ _).length≤512
   unfold stN
   split
   ·exact leaf_len _ _ _ ih
   ·exact do_len _ _ _ _ _ ih
  ·exact ih
theorem rnF_O {d:List Int} {ls:List Ly} {P X:List Int} (hP:RI P) (hX:RI X) (hGv:nE d ls=0→∀ st,st∈(plF d ls (nS d ls) P X ls.length).1→st.op≠1→GvC st.op):RnO (rnF d ls [] P X) P:=by
 have no:∀ e:Int,e≠0→RnO (e,[],0,[]) P:=fun e he=>⟨fun nd h=>by simp at h,NodesV.nil,NodesK.nil,by simp,by simp,fun h=>absurd h he⟩
 unfold rnF
 by_cases h0:nE d ls=0
 ·rw [if_pos h0]
  by_cases h1:(P.length:Int)=cntP ls (nS d ls) ls.length∧(X.length:Int)=prodI d
  ·rw [if_pos h1]
   by_cases h2:([]:List Nd).length+(plF d ls (nS d ls) P X ls.length).1.length≤512
   ·rw [if_pos h2]
    obtain ⟨S,hf,hs,ht⟩:=net_good h0
    obtain ⟨_,h4,_⟩:=nE_ok hf hs ht
    have ok:=NetOk.of hf hs
    have hall:∀ st,st∈(plF d ls (nS d ls) P X ls.length).1→SpK st:=fun st hst=>by
     have a:=((plF_ok ok (by unfold tooM at ht;simp at ht;omega) ((formB_iff d ls).1 hf).1.ri hP hX ls.length (Nat.le_refl _)).1 st (by rw [← h4];exact hst))
     refine ⟨?_,hGv h0 st hst,a.rX,(plF_op _ _ _ _ _ _ st hst).2⟩
     have:=a.rk
     unfold InR
     omega
    obtain ⟨a,b,c⟩:=pyF_all (f:=((([]:List Nd).length:Nat):Int)) hall (ns:=[]) (fun nd h=>by simp at h) NodesV.nil NodesK.nil (plF d ls (nS d ls) P X ls.length).1.length
    refine ⟨a,b,c,pyF_len (by simp) _,?_,fun e=>?_⟩
    ·show (if _ then _ else _:List Int).length≤512
     split
     ·have:=pyF_par ((([]:List Nd).length:Nat):Int) (plF d ls (nS d ls) P X ls.length).1 [] (plF d ls (nS d ls) P X ls.length).1.length
      simp only [List.length_nil,Nat.zero_add] at h2
      omega
     ·simp
    have e':(pyF ((([]:List Nd).length:Nat):Int) (plF d ls (nS d ls) P X ls.length).1 [] (plF d ls (nS d ls) P X ls.length).1.length).1=0:=e
    obtain ⟨_,q,r⟩:=pyF_par_x hall (ns:=[]) _ (Nat.le_refl _) e'
    dsimp only
    rw [if_pos e']
    refine ⟨q,?_⟩
    rw [r,List.take_length]
    have x:=plF_x d ls (nS d ls) P X ls.length
    have y:=(plF_rest (P:=P) (X:=X) ok (by rw [← h4];exact h1.1) ls.length (Nat.le_refl _)).1
    rw [← h4] at y
    have z:(plF d ls (nS d ls) P X ls.length).2.1 = []:=List.eq_nil_of_length_eq_zero (by omega)
    rw [z,List.append_nil] at x
    exact x
   ·rw [if_neg h2]
    exact no 2 (by decide)
  ·rw [if_neg h1]
   exact no 1 (by decide)
 ·rw [if_neg h0]
  exact no _ h0
theorem ls_ok {ns:List Nd} {s:Nd} (h:lsE ns s=0):lsR ns s=(ns.length:Int)∧∃ nd,lsN ns s=ns++[nd]:=by
 unfold lsE at h
 unfold lsR lsN
 by_cases h1:s.op=1
 ·rw [if_pos h1] at h ⊢
  rw [if_pos h1]
  unfold leafE at h
  by_cases h2:512≤ns.length
  ·rw [if_pos h2] at h
   cases h
  ·rw [if_neg h2] at h
   by_cases h3:isP s.D s.X
   ·have hc:ns.length < 512∧isP s.D s.X:=⟨by omega,h3⟩
    unfold leafR leafN
    rw [if_pos hc,if_pos hc]
    exact ⟨rfl,_,rfl⟩
   ·rw [if_neg h3] at h
    cases h
 ·rw [if_neg h1] at h ⊢
  rw [if_neg h1]
  unfold doE at h
  by_cases h2:512≤ns.length
  ·rw [if_pos h2] at h
   cases h
  ·rw [if_neg h2] at h
   by_cases h3:okD ns s.op s.a s.b
   ·rw [if_pos h3] at h
    have hc:doP ns s.op s.a s.b s.k:=⟨⟨by omega,h3⟩,h⟩
    unfold doR doN
    rw [if_pos hc,if_pos hc]
    exact ⟨rfl,_,rfl⟩
   ·rw [if_neg h3] at h
    cases h
theorem lyF_app {sts ns:List Nd}:∀ i,(lyF sts ns i).1=0→∃ ms,(lyF sts ns i).2.1=ns++ms∧ms.length=i∧(0 < i→(lyF sts ns i).2.2+1=((ns.length+i:Nat):Int))
 | 0,_=>⟨[],by simp [lyF],rfl,fun h=>by omega⟩
 | i+1,h=>by
  have e0:(lyF sts ns i).1=0:=by
   refine Classical.byContradiction fun hn=>?_
   rw [lyF,if_neg hn] at h
   exact hn h
  obtain ⟨ms,a,b,_⟩:=lyF_app i e0
  rw [lyF,if_pos e0] at h ⊢
  dsimp only at h ⊢
  obtain ⟨r,nd,e⟩:=ls_ok h
  refine ⟨ms++[nd],?_,by simp [b],fun _=>?_⟩
  ·rw [e,a,List.append_assoc]
  ·rw [r,a,List.length_append,b]
   omega
theorem lo_app {e:Int} {ns sts:List Nd} (hs:0 < sts.length) (h:loE e ns sts=0):∃ ms,loN e ns sts=ns++ms∧ms.length=sts.length∧loR e ns sts+1=((ns.length+sts.length:Nat):Int)∧ns.length+sts.length≤512:=by
 unfold loE at h
 by_cases h0:e=0
 ·rw [if_pos h0] at h
  unfold lyE at h
  by_cases h1:lyP ns sts
  ·rw [if_pos h1] at h
   obtain ⟨ms,a,b,c⟩:=lyF_app _ h
   unfold loN loR lyM lyR
   rw [if_pos h0,if_pos h0,if_pos h1,if_pos ⟨h1,h⟩]
   exact ⟨ms,a,b,c hs,h1⟩
  ·rw [if_neg h1] at h
   cases h
 ·rw [if_neg h0] at h
  exact absurd h h0
theorem ly_len {sts ns:List Nd} (h:ns.length≤512):∀ i,(lyF sts ns i).2.1.length≤512
 | 0=>h
 | i+1=>by
  have ih:=ly_len (sts:=sts) h i
  unfold lyF
  split
  ·show (lsN _ _).length≤512
   unfold lsN
   split
   ·exact leaf_len _ _ _ ih
   ·exact do_len _ _ _ _ _ ih
  ·exact ih
theorem lo_len {e:Int} {ns sts:List Nd} (h:ns.length≤512):(loN e ns sts).length≤512:=by
 unfold loN lyM
 split
 ·split
  ·exact ly_len h _
  ·exact h
 ·exact h
/-- The loss of a kind: its error, its node, the nodes. -/
def gkS (k o cl:Int) (ns:List Nd) (y:List Int):Int×List Nd:=if k=1 then (fitE ns o y,sqS (ns.length:Int) o y) else if k=2 then (fitE ns o y,szS (ns.length:Int) o y) else (plcE ns o cl,hgS (ns.length:Int) o (plcN ns o cl) cl)
def gkE (k o cl:Int) (ns:List Nd) (y:List Int):Int:=loE (gkS k o cl ns y).1 ns (gkS k o cl ns y).2
def gkR (k o cl:Int) (ns:List Nd) (y:List Int):Int:=loR (gkS k o cl ns y).1 ns (gkS k o cl ns y).2
def gkN (k o cl:Int) (ns:List Nd) (y:List Int):List Nd:=loN (gkS k o cl ns y).1 ns (gkS k o cl ns y).2
theorem gkS_pos (k o cl:Int) (ns:List Nd) (y:List Int):0 < (gkS k o cl ns y).2.length:=by
 unfold gkS
 split
 ·simp [sqS]
 ·split
  ·simp [szS]
  ·simp [hgS]
theorem gkN_O {k o cl:Int} {ns:List Nd} {y:List Int} (hy:RI y) (hG:NodesG ns) (hV:NodesV ns) (hK:NodesK ns) (hl:ns.length≤512):NodesG (gkN k o cl ns y)∧NodesV (gkN k o cl ns y)∧NodesK (gkN k o cl ns y)∧(gkN k o cl ns y).length≤512:=by
 refine ⟨?_,hV.lo,?_,lo_len hl⟩
 ·unfold gkN gkS
  split
  ·exact hG.lo (sqS_X hy)
  ·split
   ·exact hG.lo (szS_X hy)
   ·exact hG.lo hgS_X
 ·unfold gkN gkS
  split
  ·exact hK.lo sqS_K
  ·split
   ·exact hK.lo szS_K
   ·exact hK.lo hgS_K
/-- The gradients of the parameters' nodes, in a row. -/
def gRow (G:List Ten) (ps:List Int):List Int:=ps.flatMap fun i=>(G.getD i.toNat noT).2
/-- What is told where the loss' node r stands on the tape N: an error, the row, the loss. -/
def gfT (N:List Nd) (r:Int) (ps:List Int):Int×List Int×Int:=if swE N r=0 then (0,gRow (swL N r) ps,(ndN N r).X.getD 0 0) else (swE N r,[],0)
def gfR (k cl:Int) (y:List Int) (R:Int×List Nd×Int×List Int):Int×List Int×Int:=if R.1=0 then if gkE k R.2.2.1 cl R.2.1 y=0 then gfT (gkN k R.2.2.1 cl R.2.1 y) (gkR k R.2.2.1 cl R.2.1 y) R.2.2.2 else (gkE k R.2.2.1 cl R.2.1 y,[],0) else (R.1,[],0)
def gof (d:List Int) (ls:List Ly) (k:Int) (P X y:List Int) (cl:Int):Int×List Int×Int:=if 1≤k∧k≤3 then gfR k cl y (rnF d ls [] P X) else (1,[],0)
/-- A row that was told is as long as the parameters, and Go's. -/
def GfO (n:Nat) (T:Int×List Int×Int):Prop:=(T.1=0→T.2.1.length=n)∧RI T.2.1∧InR T.2.2
theorem GfO.no (n:Nat) {e:Int} (h:e≠0):GfO n (e,[],0):=⟨fun h'=>absurd h' h,RI.nil,by show InR 0;unfold InR;omega⟩
/-- The gradient of a node ahead of the root. -/
theorem sw_at {N:List Nd} {r:Int} (hG:NodesG N) (hV:NodesV N) (h:swE N r=0):(0≤r∧r < (N.length:Int))∧(ndN N r).X.length=1∧(swL N r).length=r.toNat+1∧∀ i:Int,0≤i→i≤r→TenG ((swL N r).getD i.toNat noT)∧((swL N r).getD i.toNat noT).2.length=(ndN N i).X.length:=by
 have h':=h
 unfold swE at h
 by_cases h0:0≤r∧r < (N.length:Int)
 ·rw [if_pos h0] at h
  by_cases h1:(ndN N r).X.length=1
  ·obtain ⟨q,rfl⟩:=Int.eq_ofNat_of_zero_le h0.1
   have S:=swK_g hG hV (root:=q) (by omega) h1 (q+1)
   unfold swL
   rw [if_pos h',Int.toNat_natCast]
   refine ⟨h0,h1,S.l,fun i i0 i1=>?_⟩
   obtain ⟨j,rfl⟩:=Int.eq_ofNat_of_zero_le i0
   rw [Int.toNat_natCast]
   obtain ⟨a,b⟩:=S.g j (by omega)
   refine ⟨a,?_⟩
   have c:=hG.at (i:=(j:Int)) (by omega) (by omega)
   rw [a.1.2,b,c.1.2]
  ·rw [if_neg h1] at h
   cases h
 ·rw [if_neg h0] at h
  cases h
theorem gRow_len {N:List Nd} {G:List Ten}:∀ {ps:List Int},(∀ i,i∈ps→(G.getD i.toNat noT).2.length=(ndN N i).X.length)→(gRow G ps).length=(ndX N ps).length
 | [],_=>rfl
 | i :: ps,h=>by
  have ih:=gRow_len (N:=N) (G:=G) (ps:=ps) fun j hj=>h j (List.mem_cons_of_mem _ hj)
  unfold gRow ndX at ih ⊢
  rw [List.flatMap_cons,List.flatMap_cons,List.length_append,List.length_append,ih,h i (List.mem_cons_self ..)]
theorem gRow_ri {G:List Ten} {ps:List Int} (h:∀ i,i∈ps→TenG (G.getD i.toNat noT)):RI (gRow G ps):=fun x hx=>by
 obtain ⟨i,hi,h2⟩:=List.mem_flatMap.1 hx
 exact (h i hi).2.2 x h2
theorem gfT_O {N:List Nd} {r:Int} {ps:List Int} (hG:NodesG N) (hV:NodesV N) {n:Nat} (hr:∀ i,i∈ps→0≤i∧i≤r) (hn:(ndX N ps).length=n):GfO n (gfT N r ps):=by
 unfold gfT
 by_cases h:swE N r=0
 ·rw [if_pos h]
  obtain ⟨h0,h1,_,h2⟩:=sw_at hG hV h
  refine ⟨fun _=>?_,gRow_ri fun i hi=>(h2 i (hr i hi).1 (hr i hi).2).1,?_⟩
  ·show (gRow _ ps).length=n
   rw [← hn]
   exact gRow_len fun i hi=>(h2 i (hr i hi).1 (hr i hi).2).2
  ·have:=(hG.at h0.1 h0.2).2.2
   show InR ((ndN N r).X.getD 0 0)
   rw [List.getD_eq_getElem?_getD,List.getElem?_eq_getElem (by omega)]
   exact this _ (List.getElem_mem _)
 ·rw [if_neg h]
  exact GfO.no n h
theorem ndX_more {ns ms:List Nd} {ps:List Int} (h:∀ i,i∈ps→0≤i∧i < (ns.length:Int)):ndX (ns++ms) ps=ndX ns ps:=by
 unfold ndX
 refine fm_congr fun i hi=>?_
 rw [nd_keep (h i hi)]
/-- What Run left, and a loss laid on it. -/
structure GkO (N:List Nd) (r:Int) (ps:List Int) (n:Nat):Prop where
 g:NodesG N
 v:NodesV N
 k:NodesK N
 l:N.length≤512
 m:ps.length≤512
 p:∀ i,i∈ps→0≤i∧i≤r
 n:(ndX N ps).length=n
theorem RnO.gk {R:Int×List Nd×Int×List Int} {P:List Int} (h:RnO R P) {k cl:Int} {y:List Int} (hy:RI y) (h0:R.1=0) (h1:gkE k R.2.2.1 cl R.2.1 y=0):GkO (gkN k R.2.2.1 cl R.2.1 y) (gkR k R.2.2.1 cl R.2.1 y) R.2.2.2 P.length:=by
 obtain ⟨a,b,c,d⟩:=gkN_O (k:=k) (o:=R.2.2.1) (cl:=cl) hy h.g h.v h.k h.l
 obtain ⟨p,q⟩:=h.p h0
 have pos:=gkS_pos k R.2.2.1 cl R.2.1 y
 obtain ⟨ms,e,e1,e2,e3⟩:=lo_app pos h1
 refine ⟨a,b,c,d,h.m,fun i hi=>?_,?_⟩
 ·have:=p i hi
  show 0≤i∧i≤loR _ _ _
  omega
 ·show (ndX (loN _ _ _) _).length=_
  rw [e,ndX_more p,q]
theorem gof_O {d:List Int} {ls:List Ly} {k cl:Int} {P X y:List Int} (hO:RnO (rnF d ls [] P X) P) (hy:RI y):GfO P.length (gof d ls k P X y cl):=by
 unfold gof
 by_cases hk:1≤k∧k≤3
 ·rw [if_pos hk]
  unfold gfR
  by_cases h0:(rnF d ls [] P X).1=0
  ·rw [if_pos h0]
   by_cases h1:gkE k (rnF d ls [] P X).2.2.1 cl (rnF d ls [] P X).2.1 y=0
   ·rw [if_pos h1]
    have g:=hO.gk hy h0 h1
    exact gfT_O g.g g.v g.p g.n
   ·rw [if_neg h1]
    exact GfO.no _ h1
  ·rw [if_neg h0]
   exact GfO.no _ h0
 ·rw [if_neg hk]
  exact GfO.no _ (by decide)
/-- An example: what comes in, what is wanted, the class. -/
abbrev Exm:=List Int×List Int×Int
def gofE (d:List Int) (ls:List Ly) (k:Int) (P:List Int) (e:Exm):Int×List Int×Int:=gof d ls k P e.1 e.2.1 e.2.2
/-- Number by number, as Wides. -/
def addW (s x:List Int):List Int:=(List.range s.length).map fun i=>wr (s.getD i 0+x.getD i 0)
def exA (l:List Exm) (i:Nat):Exm:=l.getD i ([],[],0)
/-- What the first i examples come to: an error, the sums, the losses' sum. -/
def smK (f:Exm→Int×List Int×Int) (n:Nat) (l:List Exm):Nat→Int×List Int×Int
 | 0=>(0,List.replicate n 0,0)
 | i+1=>if (smK f n l i).1=0 then if (f (exA l i)).1=0 then (0,addW (smK f n l i).2.1 (f (exA l i)).2.1,wr ((smK f n l i).2.2+(f (exA l i)).2.2)) else ((f (exA l i)).1,[],0) else smK f n l i
theorem smK_stop (f:Exm→Int×List Int×Int) (n:Nat) (l:List Exm) (i:Nat) (h:(smK f n l i).1≠0):∀ k,smK f n l (i+k)=smK f n l i
 | 0=>rfl
 | k+1=>by
  have:=smK_stop f n l i h k
  rw [← Nat.add_assoc,smK,this,if_neg h]
theorem addW_len (s x:List Int):(addW s x).length=s.length:=by simp [addW]
/-- All examples summed. -/
def sumG (f:Exm→Int×List Int×Int) (n:Nat) (l:List Exm):Int×List Int×Int:=smK f n l l.length
end Go.Proofs.YtjlofobnmjompaaGreatDoor.Wd
namespace Go.Proofs.YtjlofobnmjompaaGreatDoor.Wd
open Go.ChangeShapes Go.WideShapes Go.ChangeAt Go.RowKit Go.Joins Go.Deep
end Go.Proofs.YtjlofobnmjompaaGreatDoor.Wd
namespace Go.Proofs.YtjlofobnmjompaaGreatDoor.Wd
open Go.ChangeShapes Go.WideShapes Go.ChangeAt Go.RowKit Go.Joins Go.Deep Fx
/-- A row of Go's numbers that is read. -/
def RowI (W:World) (p:Option Addr) (n c:Nat) (l:List Int):Prop:=Nums .i64 W (.slice p n c) l∧RI l∧n≤c
theorem RowI.up {W W':World} {p:Option Addr} {n c:Nat} {l:List Int} (h:RowI W p n c l) (hB:Below W.heap.size W W'):RowI W' p n c l:=⟨h.1.up hB,h.2⟩
/-- An example's three cells. -/
def ExAt (W:World) (q o:Nat) (e:Exm):Prop:=∃ p n c p2 n2 c2,W.cell? ⟨q,o,none⟩=some (.slice p n c)∧W.cell? ⟨q,o+1,none⟩=some (.slice p2 n2 c2)∧W.cell? ⟨q,o+2,none⟩=some (.int .i64 e.2.2)∧InR e.2.2∧RowI W p n c e.1∧RowI W p2 n2 c2 e.2.1
theorem ExAt.up {W W':World} {q o:Nat} {e:Exm} (h:ExAt W q o e) (hB:Below W.heap.size W W'):ExAt W' q o e:=by
 obtain ⟨p,n,c,p2,n2,c2,a,b,d,i,r,s⟩:=h
 exact ⟨p,n,c,p2,n2,c2,keep hB a,keep hB b,keep hB d,i,r.up hB,s.up hB⟩
def ExR (W:World) (p:Option Addr) (n:Nat) (l:List Exm):Prop:=l.length=n∧∀ i,i < n→∃ q o,p=some ⟨q,o,none⟩∧ExAt W q (o+i*3) (exA l i)
theorem ExR.up {W W':World} {p:Option Addr} {n:Nat} {l:List Exm} (h:ExR W p n l) (hB:Below W.heap.size W W'):ExR W' p n l:=⟨h.1,fun i hi=>by
 obtain ⟨q,o,e,a⟩:=h.2 i hi
 exact ⟨q,o,e,a.up hB⟩⟩
/-- Wides that are read. -/
def WdR (W:World) (p:Option Addr) (n:Nat) (l:List Int):Prop:=l.length=n∧(∀ y,y∈l→InW y)∧∀ i,i < n→∃ q o,p=some ⟨q,o,none⟩∧W.cell? ⟨q,o+i*2,none⟩=some (.int .i64 (l.getD i 0 / 18446744073709551616))∧W.cell? ⟨q,o+i*2+1,none⟩=some (.int .u64 (l.getD i 0 % 18446744073709551616))
theorem WdR.up {W W':World} {p:Option Addr} {n:Nat} {l:List Int} (h:WdR W p n l) (hB:Below W.heap.size W W'):WdR W' p n l:=⟨h.1,h.2.1,fun i hi=>by
 obtain ⟨q,o,e,a,b⟩:=h.2.2 i hi
 exact ⟨q,o,e,keep hB a,keep hB b⟩⟩
def WdsN (W:World) (p:Option Addr) (n c:Nat) (l:List Int):Prop:=n≤c∧c≤9223372036854775807∧WdR W p n l
theorem wdR_of {W:World} {p:Option Addr} {n:Nat} (h:∀ i,i < n→∃ q o x,p=some ⟨q,o,none⟩∧InW x∧W.cell? ⟨q,o+i*2,none⟩=some (.int .i64 (x / 18446744073709551616))∧W.cell? ⟨q,o+i*2+1,none⟩=some (.int .u64 (x % 18446744073709551616))):∃ l,WdR W p n l:=by
 have h2:∀ i,∃ x:Int,InW x∧(i < n→∃ q o,p=some ⟨q,o,none⟩∧W.cell? ⟨q,o+i*2,none⟩=some (.int .i64 (x / 18446744073709551616))∧W.cell? ⟨q,o+i*2+1,none⟩=some (.int .u64 (x % 18446744073709551616))):=fun i=>by
  by_cases hi:i < n
  ·obtain ⟨q,o,x,h3,h4,h5⟩:=h i hi
   exact ⟨x,h4,fun _=>⟨q,o,h3,h5⟩⟩
  ·exact ⟨0,by unfold InW;omega,fun h4=>absurd h4 hi⟩
 obtain ⟨f,hf⟩:=Classical.axiomOfChoice h2
 refine ⟨(List.range n).map f,by simp,fun y hy=>?_,fun i hi=>?_⟩
 ·obtain ⟨i,_,rfl⟩:=List.mem_map.1 hy
  exact (hf i).1
 ·have e:((List.range n).map f).getD i 0=f i:=by
   rw [List.getD_eq_getElem?_getD,List.getElem?_map,List.getElem?_range hi]
   rfl
  rw [e]
  exact (hf i).2 hi
theorem list2 {α:Type} {l:List α} (h:l.length=2):∃ a b,l = [a,b]:=by
 match l,h with
 | [a,b],_=>exact ⟨a,b,rfl⟩
theorem open_wides {H:Type} {enc:TypeId×Value→H} {P:Program} {W:World} {t e:TypeId} {f0 f1:Field} {a:Option Addr} {n c:Nat} {d:DataW H} {ps:List MemPlace}
  (ht:P.underlying t=some (.slice e)) (he:P.underlying e=some (.struct #[f0,f1])) (ce:P.cellsOf e=2)
  (o0:f0.offset=0) (o1:f1.offset=1) (c0:P.cellsOf f0.type=1) (c1:P.cellsOf f1.type=1)
  (u0:P.underlying f0.type=some (.int .i64)) (u1:P.underlying f1.type=some (.int .u64))
  (h:DataW.Trod enc P W 0 (fun _=>true) true t (.slice a n c) d ps):∃ l,WdsN W a n c l:=by
 obtain ⟨fuel,hf⟩:=h
 rcases open_slice ht hf with ⟨hcs,_⟩|⟨x,len,cap,m,fu,D,Pl,hcs,hb,hl,hm,hmm,_,hx⟩
 ·simp [Value.cells] at hcs
  obtain ⟨rfl,rfl,rfl⟩:=hcs
  exact ⟨[],Nat.le_refl _,by omega,rfl,fun y hy=>by simp at hy,fun i hi=>by omega⟩
 ·simp [Value.cells] at hcs
  obtain ⟨rfl,rfl,rfl⟩:=hcs
  have key:∃ l,WdR W (some x) n l:=wdR_of fun i hi=>by
   have hlm:n≤m:=by rw [hmm];split <;> omega
   obtain ⟨cs',h1,h2⟩:=hx i (by omega)
   rw [ce] at h1
   obtain ⟨_,hlen,hcell⟩:=World.cells?_some h1
   obtain ⟨xs,fk,_,_,_,hxl,hfd⟩:=DataW.trod_struct he h2
   obtain ⟨y0,y1,rfl⟩:=list2 hxl
   obtain ⟨v0,v1,rfl⟩:=list2 hlen
   have t0:=hfd 0 f0 rfl
   have t1:=hfd 1 f1 rfl
   simp [o0,c0] at t0
   simp [o1,c1] at t1
   obtain ⟨z0,e0',_,w0⟩:=DataW.trod_int u0 t0
   obtain ⟨z1,e1',_,w1⟩:=DataW.trod_int u1 t1
   simp only [List.cons.injEq,and_true] at e0' e1'
   subst e0' e1'
   have g0_:=hcell 0 (by omega)
   have g1_:=hcell 1 (by omega)
   rw [add_add] at g0_ g1_
   have ex:x=⟨x.block,x.off,none⟩:=by
    obtain ⟨cs0,h10,_⟩:=hx 0 (by omega)
    rw [ce] at h10
    obtain ⟨_,hlen0,hcell0⟩:=World.cells?_some h10
    obtain ⟨w0_,w1_,rfl⟩:=list2 hlen0
    have h0:=hcell0 0 (by omega)
    rw [add_add,Nat.zero_mul] at h0
    have e0_:x.add (0+0)=x:=by simp [Addr.add]
    rw [e0_] at h0
    exact spot_none (v:=w0_) (by simpa using h0)
   have hs:∀ j v,W.cell? (x.add j)=some v→x=⟨x.block,x.off,none⟩∧W.cell? ⟨x.block,x.off+j,none⟩=some v:=fun j v hv=>by
    rw [ex,addr_plus] at hv
    exact ⟨ex,hv⟩
   have n0:=hs _ _ (by simpa using g0_)
   have n1:=(hs _ _ (by simpa using g1_)).2
   have b0:=bounds_i64 w0
   have b1:=bounds_u64 w1
   refine ⟨x.block,x.off,z0*18446744073709551616+z1,by rw [← n0.1],by unfold InW;omega,?_,?_⟩
   ·rw [show (z0*18446744073709551616+z1) / 18446744073709551616=z0 by omega]
    exact n0.2
   ·rw [show (z0*18446744073709551616+z1) % 18446744073709551616=z1 by omega,Nat.add_assoc]
    exact n1
  obtain ⟨l,hl2⟩:=key
  exact ⟨l,hl,by unfold maxLen at hm;omega,hl2⟩
end Go.Proofs.YtjlofobnmjompaaGreatDoor.Wd
namespace Go.Proofs.YtjlofobnmjompaaGreatDoor.Wd
open Go.RowKit
end Go.Proofs.YtjlofobnmjompaaGreatDoor.Wd
