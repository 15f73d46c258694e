/- The code's play: the steps of a plan, on -/
import Derived.Test.YtihjnbbhpojnpaaGreatDoorQ24
import Derived.Maps.AppendAt
import Derived.Deep.Slices
import Derived.ChangeSame
import Derived.Test.YtihjnbbhpojnpaaGreatDoorRows
import Derived.Lib.LaidTab
import Derived.Test.YtihjnbbhpojnpaaGreatDoorQ20
set_option linter.unusedVariables false
set_option linter.unusedSimpArgs false
set_option maxHeartbeats 16000000
set_option maxRecDepth 16000
namespace Go.Proofs.YtihjnbbhpojnpaaGreatDoor.Wd
open Go.RowKit Fx
def spA (sts:List Sp) (i:Nat):Sp:=sts.getD i ⟨1,0,0,0,[],[],false⟩
/-- The first i steps: an error, the nodes, the last node, the parameters' nodes. -/
def pyF (f:Int) (sts:List Sp) (ns:List Nd):Nat→Int×List Nd×Int×List Int
 | 0=>(0,ns,0,[])
 | i+1=>if (pyF f sts ns i).1=0 then (stE f (pyF f sts ns i).2.1 (spA sts i),stN f (pyF f sts ns i).2.1 (spA sts i),stR f (pyF f sts ns i).2.1 (spA sts i),if (spA sts i).par=true then (pyF f sts ns i).2.2.2++[stR f (pyF f sts ns i).2.1 (spA sts i)] else (pyF f sts ns i).2.2.2) else pyF f sts ns i
theorem wpList_appA {P:Program} {t e:TypeId} {s b:Nat} (T:GT P t e s b) (hb:b≤256) (hs0:0 < s) {ops:Array Oper} {rest:List Oper} {o:Oper} {a:Act} {Q:Exit→Act→World→Prop} {w:World} (hgd:o.guard=none) (sx x:Operand)
  (ho:o.op = .call { callee:=.builtin .append,args:=#[sx,x],argTypes:=#[t,t] }) (B:Nat) (v:Value) (n:Nat) (xs:List Value) (hs:a.eval sx=v) (hown:w.ownsRow B e s v n xs) (g:Nat) (u:List Value) (hx:a.eval x = .slice (some ⟨g,0,none⟩) 1 1)
  (hg:w.heap[g]?=some (.cells u.toArray e (0,0))) (hu:u.length=s) (h1:∀ y∈u,y.oneCell'=true) (hn:n+1≤1073741825) (hB:B≤w.heap.size)
  (h:∀ v' w',Hid (w'.ownsRow B e s v' (n+1) (xs++u))→Hid (w.grownBy w' v.ownBlock)→Hid (v'.ownBlock=v.ownBlock∨v'.ownBlock=some w.heap.size)→wpList P ops Q rest (a.put o.dst v') w'):wpList P ops Q (o :: rest) a w:=by
 have hi:=T.hi
 cases hq:P.info? e with
 | none=>rw [hq] at hi;cases hi
 | some i=>
  rw [hq] at hi
  simp only [Option.map_some,Option.some.injEq,Prod.mk.injEq] at hi
  obtain ⟨hz,hsz,hby⟩:=hi
  cases hz0:i.zero with
  | none=>rw [hz0] at hz;cases hz
  | some z=>
   rw [hz0] at hz
   simp only [Option.map_some,Option.some.injEq] at hz
   have hm:(n+1)*b≤1073741825*256:=Nat.mul_le_mul hn hb
   exact wpList_append_own_at w hgd sx x t ho B e i z s b T.ht hq hz0 hsz hby hz hs0 v n xs hs hown ⟨g,0,none⟩ 1 1 u hx (by omega) (fun j y hj=>by
    rw [addr_plus,Nat.zero_add]
    unfold World.cell?
    simpa [hg] using hj) h1 (by unfold maxLen;omega) (by omega) hB (fun v' w' h2 h3 _ h5=>h v' w' h2 h3 h5)
theorem stpN {B n c:Nat} {W W':World} {p:Option Addr} {sts:List Sp} {xs:List Value} {Bs m:Nat} (ho:W'.ownsRow Bs 104 7 (.slice p m c) m xs) (hc:StsC B W sts xs) (hm:sts.length=m) (i:Nat) (hi:i < m):
  ∃ q s1 n1 c1 s2 n2 c2,p=some ⟨q,0,none⟩∧W'.cell? ⟨q,i*7,none⟩=some (.int .i64 (spA sts i).op)∧W'.cell? ⟨q,i*7+1,none⟩=some (.int .i64 (spA sts i).a)∧W'.cell? ⟨q,i*7+2,none⟩=some (.int .i64 (spA sts i).b)∧W'.cell? ⟨q,i*7+3,none⟩=some (.int .i64 (spA sts i).k)∧W'.cell? ⟨q,i*7+4,none⟩=some (.slice s1 n1 c1)∧W'.cell? ⟨q,i*7+5,none⟩=some (.slice s2 n2 c2)∧W'.cell? ⟨q,i*7+6,none⟩=some (.bool (spA sts i).par)∧Kept B W (.slice s1 n1 c1) (spA sts i).D∧Kept B W (.slice s2 n2 c2) (spA sts i).X:=by
 have hnd:sts[i]?=some (spA sts i):=by
  unfold spA
  rw [List.getD_eq_getElem?_getD,List.getElem?_eq_getElem (by omega)]
  rfl
 obtain ⟨s1,n1,c1,s2,n2,c2,e,h1,h2⟩:=hc.2 i _ hnd
 have hx:∀ j u,((xs.drop (i*7)).take 7)[j]?=some u→xs[i*7+j]?=some u:=fun j u h=>by
  rw [List.getElem?_take] at h
  split at h
  ·rw [List.getElem?_drop] at h
   exact h
  ·cases h
 rw [e] at hx
 rcases ho.2 with ⟨h0,h1⟩|⟨g,cap,cur,hv,hb,hg,rest⟩
 ·omega
 ·cases hv
  have hc:∀ j u,xs[j]?=some u→W'.cell? ⟨g,j,none⟩=some u:=fun j u h=>by
   have:=ho.cells (g:=g) rfl j u h
   rw [addr_plus,Nat.zero_add] at this
   exact this
  exact ⟨g,s1,n1,c1,s2,n2,c2,rfl,hc _ _ (hx 0 _ rfl),hc _ _ (hx 1 _ rfl),hc _ _ (hx 2 _ rfl),hc _ _ (hx 3 _ rfl),hc _ _ (hx 4 _ rfl),hc _ _ (hx 5 _ rfl),hc _ _ (hx 6 _ rfl),h1,h2⟩
theorem pyF_stop (f:Int) (sts:List Sp) (ns:List Nd) (i:Nat) (h:(pyF f sts ns i).1≠0):∀ k,pyF f sts ns (i+k)=pyF f sts ns i
 | 0=>rfl
 | k+1=>by
  have e:=pyF_stop f sts ns i h k
  show (if (pyF f sts ns (i+k)).1=0 then _ else pyF f sts ns (i+k))=_
  rw [e,if_neg h]
theorem pyF_par (f:Int) (sts:List Sp) (ns:List Nd):∀ i,(pyF f sts ns i).2.2.2.length≤i
 | 0=>by simp [pyF]
 | i+1=>by
  have:=pyF_par f sts ns i
  unfold pyF
  split
  ·dsimp only
   split
   ·rw [List.length_append];simp;omega
   ·omega
  ·omega
theorem NodesG.st {f:Int} {ns:List Nd} {st:Sp} (h:NodesG ns) (hx:RI st.X):NodesG (stN f ns st):=by
 unfold stN
 split
 ·exact h.leaf hx
 ·exact h.do
/-- The parameters' row, and that no node lies there. -/
structure PrO (w:World) (B tb:Nat) (ps:List Int) (v:Value) (W:World):Prop where
 own:OwnK .i64 3 W w.heap.size v ps
 off:∀ x,v.ownBlock=some x→AvT x W tb
theorem PrO.nil (w:World) (B tb:Nat) (W:World):PrO w B tb [] (.slice none 0 0) W:=⟨OwnK.nil _ _ _ _,fun x h=>by cases h⟩
theorem PrO.lt {w:World} {B tb:Nat} {ps:List Int} {v:Value} {W:World} (h:PrO w B tb ps v W):∀ x,v.ownBlock=some x→w.heap.size≤x∧x < W.heap.size:=fun x hx=>World.ownsRow.lt h.own x hx
theorem PrO.tape {w:World} {B tb:Nat} {ps:List Int} {v:Value} {W W':World} (h:PrO w B tb ps v W) (ho:Only SC W W') (hs:Spar2 tb W W'):PrO w B tb ps v W':=⟨h.own.only ho (by decide),fun x hx=>hs.2 x (h.lt x hx).2 (h.off x hx)⟩
theorem PrO.up {w:World} {B tb:Nat} {ps:List Int} {v:Value} {W W':World} (h:PrO w B tb ps v W) (hB:Below W.heap.size W W'):PrO w B tb ps v W':=⟨h.own.up hB,fun x hx=>(h.off x hx).up hB⟩
theorem grown_none {a b:World} (h:a.grownBy b none):Below a.heap.size a b:=⟨h.os,h.tape,h.output,h.size,fun k hk=>h.block k hk (fun e=>by cases e)⟩
theorem PrO.grow {w:World} {B tb:Nat} {ps:List Int} {ns:List Nd} {v v':Value} {x:Int} {W W':World} (h:PrO w B tb ps v W) (hT:TapC W B tb ns) (ho:W'.ownsRow w.heap.size 3 1 v' (ps.length+1) (vals .i64 ps++[.int .i64 x])) (hg:W.grownBy W' v.ownBlock) (hat:v'.ownBlock=v.ownBlock∨v'.ownBlock=some W.heap.size):PrO w B tb (ps++[x]) v' W'∧TapC W' B tb ns∧(∀ w0,Below B w0 W→Only SC w0 W→w0.heap.size≤w.heap.size→B≤w.heap.size→Below B w0 W'∧Only SC w0 W'):=by
 have hown:OwnK .i64 3 W' w.heap.size v' (ps++[x]):=by
  unfold OwnK
  rw [List.length_append]
  unfold vals at *
  rw [List.map_append]
  exact ho
 have hlow:∀ w0,Below B w0 W→Only SC w0 W→w0.heap.size≤w.heap.size→B≤w.heap.size→Below B w0 W'∧Only SC w0 W':=fun w0 hB0 hO0 hz hBz=>by
  refine ⟨Below.grown hB0 hg ?_ fun k hk=>Nat.le_trans hBz (h.lt k hk).1,Nat.le_trans hO0.1 hg.size,fun k hk hp=>?_⟩
  ·obtain ⟨hb,_,_,hv,_⟩:=hT
   exact Nat.le_trans hb (Nat.le_of_lt (heap_lt hv))
  ·rw [hg.block k (Nat.lt_of_lt_of_le hk hO0.1) (fun e=>by have:=(h.lt k e.symm).1;omega)]
   exact hO0.2 k hk hp
 cases hb:v.ownBlock with
 | none=>
  rw [hb] at hg hat
  have hB:=grown_none hg
  refine ⟨⟨hown,fun y hy=>?_⟩,hT.up hB,hlow⟩
  rcases hat with h1|h1
  ·rw [h1] at hy;cases hy
  ·rw [h1] at hy
   cases hy
   exact (hT.av (Nat.le_refl _)).up hB
 | some r=>
  rw [hb] at hg hat
  obtain ⟨cs,fz,hr⟩:∃ cs fz,W.heap[r]?=some (.cells cs 3 fz):=by
   rcases h.own.2 with ⟨rfl,_⟩|⟨g,cap,cur,rfl,_,hc,_⟩
   ·cases hb
   ·cases hb
    exact ⟨_,_,hc⟩
  refine ⟨⟨hown,fun y hy=>?_⟩,hT.beside hg hr (h.off r hb),hlow⟩
  rcases hat with h1|h1
  ·rw [h1] at hy
   cases hy
   exact (h.off r hb).beside hT hg hr
  ·rw [h1] at hy
   cases hy
   exact (hT.av (Nat.le_refl _)).beside hT hg hr
theorem play_any (B tb:Nat) (ns:List Nd) (hG:NodesG ns) (sts:List Sp) (hok:∀ i,i < sts.length→SpOk (spA sts i)∧((spA sts i).op≠1→RkC (spA sts i).op)) (hfew:sts.length≤200) (hns:ns.length≤512) (q:Option Addr) (m r Bs:Nat) (xs:List Value) (hm:sts.length=m) (w:World) (hT:TapC w B tb ns) (hTz:Hid (∀ W,Below B w W→Tz W)) (ho:w.ownsRow Bs 104 7 (.slice q m r) m xs) (hc:StsC B w sts xs):
  Calls Tryz.prog 28 #[.pointer (some ⟨tb,0,none⟩),.slice q m r] w fun e w'=>∃ v,e = .returned (.tuple #[.int .i64 (if (pyF ns.length sts ns m).1=0 then (pyF ns.length sts ns m).2.2.1 else 0),v,.int .i64 (pyF ns.length sts ns m).1])∧OwnK .i64 3 w' w.heap.size v (if (pyF ns.length sts ns m).1=0 then (pyF ns.length sts ns m).2.2.2 else [])∧TapC w' B tb (pyF ns.length sts ns m).2.1∧Below B w w'∧Only SC w w':=by
 haveI:Nonempty World:=⟨w⟩
 have cln:=clen_any B tb ns w hT
 have hBz:B≤w.heap.size:=by
  obtain ⟨hb,_,_,hv,_⟩:=hT
  exact Nat.le_trans hb (Nat.le_of_lt (heap_lt hv))
 obtain ⟨f,ef⟩:∃ f:Int,(ns.length:Int)=f:=⟨_,rfl⟩
 have hf:0≤f∧f≤1000:=by omega
 rw [ef] at cln ⊢
 have hstop:=pyF_stop f sts ns
 have hpar:=pyF_par f sts ns
 obtain ⟨F,eF⟩:∃ F,pyF f sts ns=F:=⟨_,rfl⟩
 have h0:F 0=(0,ns,0,[]):=by rw [← eF];rfl
 have hs:∀ i,(F i).1=0→F (i+1)=(stE f (F i).2.1 (spA sts i),stN f (F i).2.1 (spA sts i),stR f (F i).2.1 (spA sts i),if (spA sts i).par=true then (F i).2.2.2++[stR f (F i).2.1 (spA sts i)] else (F i).2.2.2):=fun i h=>by
  rw [← eF] at h ⊢
  conv=>lhs;unfold pyF
  rw [if_pos h]
 rw [eF] at hstop hpar ⊢
 have HF:Hid (F 0=(0,ns,0,[])∧(∀ i,(F i).1=0→F (i+1)=(stE f (F i).2.1 (spA sts i),stN f (F i).2.1 (spA sts i),stR f (F i).2.1 (spA sts i),if (spA sts i).par=true then (F i).2.2.2++[stR f (F i).2.1 (spA sts i)] else (F i).2.2.2))∧(∀ i,(F i).1≠0→∀ k,F (i+k)=F i)∧(∀ i,(F i).2.2.2.length≤i)):=⟨h0,hs,hstop,hpar⟩
 have HK:Hid (B≤w.heap.size∧w.ownsRow Bs 104 7 (.slice q m r) m xs∧StsC B w sts xs∧sts.length=m∧(∀ i,i < m→SpOk (spA sts i)∧((spA sts i).op≠1→RkC (spA sts i).op))):=⟨hBz,ho,hc,hm,by rw [← hm];exact hok⟩
 have HT:Hid (TapC w B tb ns∧NodesG ns):=⟨hT,hG⟩
 have hm2:m≤200:=by omega
 obtain ⟨LR,eLR⟩:∃ z,(if (F m).1=0 then (F m).2.2.1 else 0)=z:=⟨_,rfl⟩
 obtain ⟨PR,ePR⟩:∃ z,(if (F m).1=0 then (F m).2.2.2 else [])=z:=⟨_,rfl⟩
 rw [eLR,ePR]
 have HRR:Hid ((if (F m).1=0 then (F m).2.2.1 else 0)=LR∧(if (F m).1=0 then (F m).2.2.2 else [])=PR):=⟨eLR,ePR⟩
 clear eLR ePR h0 hs hstop hpar eF ho hc hm hok hT hG hfew hns hBz ef
 go_enter Tryz.func28,Tryz.ntmps28
 go_wp2_with fail
 refine cln.mono ?_
 rintro e w1 ⟨rfl,rfl⟩
 clear cln
 go_wp2_with fail
 go_loopg [8,9,18] m (fun gg u v i wr=>∃ (k:Nat),k≤m∧gg=m - k∧u = .int .i64 (F k).2.2.1∧i = .int .i64 (k:Int)∧Hid ((F k).1=0∧TapC wr B tb (F k).2.1∧NodesG (F k).2.1∧PrO w1 B tb (F k).2.2.2 v wr∧Below B w1 wr∧Only SC w1 wr))
 case atStart=>
  refine ⟨0,by omega,by omega,by rw [HF.out.1],rfl,?_⟩
  show _∧_
  rw [HF.out.1]
  exact ⟨rfl,HT.out.1,HT.out.2,PrO.nil _ _ _ _,Below.refl _ _,Only.refl _ _⟩
 case round=>
  obtain ⟨k,hk,hg,rfl,rfl,HI⟩:=hrel
  by_cases hkm:k < m
  ·have hk':(k:Int) < (m:Int):=by omega
   obtain ⟨hok,hrk⟩:=HK.out.2.2.2.2 k hkm
   have hstep:=HF.out.2.1 k HI.out.1
   obtain ⟨g,s1,n1,c1,s2,n2,c2,rfl,y0,y1,y2,y3,y4,y5,y6,k1,k2⟩:=stpN (n:=0) (owns_only HK.out.2.1 HI.out.2.2.2.2.2 (by decide)) HK.out.2.2.1 HK.out.2.2.2.1 k hkm
   obtain ⟨st,est⟩:∃ st,spA sts k=st:=⟨_,rfl⟩
   rw [est] at y0 y1 y2 y3 y6 k1 k2 hstep hok hrk
   have hRn:R4 B w1 wr:=⟨HI.out.2.2.2.2.1,HI.out.2.2.2.2.2.more (by simp)⟩
   have cL:Hid (∀ W,Below wr.heap.size wr W→Calls Tryz.prog 46 #[.pointer (some ⟨tb,0,none⟩),.agg #[.int .i64 st.op,.int .i64 st.a,.int .i64 st.b,.int .i64 st.k,.slice s1 n1 c1,.slice s2 n2 c2,.bool st.par],.int .i64 f] W fun e w'=>e = .returned (.tuple #[.int .i64 (stR f (F k).2.1 st),.int .i64 (stE f (F k).2.1 st)])∧TapC w' B tb (stN f (F k).2.1 st)∧Below B W w'∧Only SC W w'∧Spar2 tb W w'):=fun W hW=>by
    have hR:R4 B w1 W:=hRn.trans (R4.of (Nat.le_trans HK.out.1 hRn.size) hW)
    exact lay_any B tb (F k).2.1 HI.out.2.2.1 st hok hrk f hf s1 n1 c1 s2 n2 c2 W (HI.out.2.1.up hW) (hTz.out W hR.bel) (k1 W hR) (k2 W hR)
   have HG2:Hid (NodesG (stN f (F k).2.1 st)):=HI.out.2.2.1.st hok.rX
   obtain ⟨E,eE⟩:∃ E,stE f (F k).2.1 st=E:=⟨_,rfl⟩
   obtain ⟨R,eR⟩:∃ E,stR f (F k).2.1 st=E:=⟨_,rfl⟩
   obtain ⟨NS,eN⟩:∃ E,stN f (F k).2.1 st=E:=⟨_,rfl⟩
   rw [eE,eR,eN] at cL hstep
   rw [eN] at HG2
   have HST:Hid (F (k+1)=(E,NS,R,if st.par=true then (F k).2.2.2++[R] else (F k).2.2.2)):=hstep
   obtain ⟨op,a,b,kk,D,X,par⟩:=st
   simp only [] at y0 y1 y2 y3 y6 cL
   have hlt:=cell_size y0
   clear hok hrk hstep k1 k2 est hRn eE eR eN hf
   go_wp2_with fail
   generalize hW2:World.alloc _ _=W2
   have HB2:Hid (Below wr.heap.size wr W2):=by rw [← hW2];exact up_alloc wr _
   have e6:W2.cell? ⟨wr.heap.size,6,none⟩=some (.bool par):=by rw [← hW2];simp [go_sem]
   have HX2:Hid (∃ cs,W2.heap[wr.heap.size]?=some (.cells cs 104 (0,0))∧cs[6]?=some (.bool par)):=⟨_,by rw [← hW2];exact Array.getElem?_push_size,rfl⟩
   clear hW2 y0 y1 y2 y3 y4 y5 y6 hlt
   refine (cL.out W2 HB2.out).mono ?_
   rintro e w3 ⟨rfl,hT3,hB3,hO3,hS3⟩
   have e63:w3.cell? ⟨wr.heap.size,6,none⟩=some (.bool par):=by
    obtain ⟨cs,h1,h2⟩:=HX2.out
    have:=hO3.keep h1 (by decide)
    unfold World.cell?
    simp [this,h2]
   have HI3:Hid (TapC w3 B tb NS∧PrO w1 B tb (F k).2.2.2 u9 w3∧Below B w1 w3∧Only SC w1 w3):=⟨hT3,(HI.out.2.2.2.1.up HB2.out).tape hO3 hS3,HI.out.2.2.2.2.1.trans ((HB2.out.mono (Nat.le_trans HK.out.1 HI.out.2.2.2.2.2.1)).trans hB3),HI.out.2.2.2.2.2.trans ((Only.of HB2.out).trans hO3)⟩
   clear hT3 hB3 hO3 hS3 e6 HX2 cL
   by_cases hE:E=0
   case neg=>
    have hE':(E != 0)=true:=by simpa using hE
    have HE:Hid (F m=(E,NS,R,if par=true then (F k).2.2.2++[R] else (F k).2.2.2)):=by
     have h4:=HF.out.2.2.1 (k+1) (by rw [HST.out];exact hE) (m - (k+1))
     rw [show k+1+(m - (k+1))=m by omega] at h4
     show _=_
     rw [h4,HST.out]
    have HRS:Hid (∃ v,Ending.returned (.tuple #[.int .i64 0,.slice none 0 0,.int .i64 E]) = .returned (.tuple #[.int .i64 LR,v,.int .i64 (F m).1])∧OwnK .i64 3 w3 w1.heap.size v PR∧TapC w3 B tb (F m).2.1∧Below B w1 w3∧Only SC w1 w3):=by
     show ∃ _,_
     have e1:(F m).1=E:=by rw [HE.out]
     have e2:=HRR.out
     rw [if_neg (by rw [e1];exact hE),if_neg (by rw [e1];exact hE)] at e2
     rw [← e2.1,← e2.2,e1]
     refine ⟨_,rfl,OwnK.nil _ _ _ _,?_,HI3.out.2.2⟩
     rw [HE.out]
     exact HI3.out.1
    clear HE HI3 HST HI
    go_wp2
    exact bodyPost_ret (v:=.tuple #[.int .i64 0,.slice none 0 0,.int .i64 E]) (by simp [results,Tryz.results28,go_sem]) rfl HRS.out
   subst hE
   cases par with
   | false=>
    have HN:Hid ((F (k+1)).1=0∧TapC w3 B tb (F (k+1)).2.1∧NodesG (F (k+1)).2.1∧PrO w1 B tb (F (k+1)).2.2.2 u9 w3∧Below B w1 w3∧Only SC w1 w3):=by
     show _∧_
     rw [HST.out]
     exact ⟨rfl,HI3.out.1,HG2.out,HI3.out.2.1,HI3.out.2.2⟩
    have HL:Hid ((F (k+1)).2.2.1=R):=by show _=_;rw [HST.out]
    clear HI3 HI HST
    go_wp2
    go_roundg (m - (k+1))
    case measure=>omega
    case rel=>exact ⟨k+1,by omega,rfl,by rw [HL.out],by first|rfl|simp,HN⟩
   | true=>
    obtain ⟨pv,nv,cv,rfl,HCv⟩:=HI3.out.2.1.own.nums.lst
    have hnv:=HCv.out.1
    have hpl:=HF.out.2.2.2 k
    have HLN:Hid ((F k).2.2.2.length=nv):=hnv
    clear HCv
    have hbl:Below w3.heap.size w3 (w3.alloc (.cells #[.int .i64 R] 3)):=up_alloc w3 _
    have HP5:Hid (PrO w1 B tb (F k).2.2.2 (.slice pv nv cv) (w3.alloc (.cells #[.int .i64 R] 3))∧TapC (w3.alloc (.cells #[.int .i64 R] 3)) B tb NS):=⟨HI3.out.2.1.up hbl,HI3.out.1.up hbl⟩
    have A1:Hid ((w3.alloc (.cells #[.int .i64 R] 3)).ownsRow w1.heap.size 3 1 (.slice pv nv cv) nv (vals .i64 (F k).2.2.2)):=by
     have:=HP5.out.1.own
     unfold OwnK at this
     rw [hnv] at this
     exact this
    have A2:Hid ((w3.alloc (.cells #[.int .i64 R] 3)).heap[w3.heap.size]?=some (.cells [Value.int .i64 R].toArray 3 (0,0))):=Array.getElem?_push_size
    have A3:Hid (∀ y∈[Value.int .i64 R],y.oneCell'=true):=fun y hy=>by simp at hy;subst hy;rfl
    have A4:Hid (w1.heap.size≤(w3.alloc (.cells #[.int .i64 R] 3)).heap.size):=Nat.le_trans HI3.out.2.2.2.1 hbl.size
    have A5:Hid (Below B w1 (w3.alloc (.cells #[.int .i64 R] 3))∧Only SC w1 (w3.alloc (.cells #[.int .i64 R] 3))):=⟨HI3.out.2.2.1.trans (hbl.mono (Nat.le_trans HK.out.1 HI3.out.2.2.2.1)),HI3.out.2.2.2.trans (Only.of hbl)⟩
    have hnv2:nv+1≤1073741825:=by omega
    clear hbl HI3 hnv
    go_wp2_with (at_builtin;refine wpList_appA intT1 (by decide) (by decide) rfl (.tmp 34) (.tmp 36) rfl w1.heap.size _ _ _ rfl A1.out _ [.int .i64 R] rfl A2.out rfl A3.out hnv2 A4.out ?_;intro v0 w0 H0 O0 B0)
    have HN:Hid ((F (k+1)).1=0∧TapC w0 B tb (F (k+1)).2.1∧NodesG (F (k+1)).2.1∧PrO w1 B tb (F (k+1)).2.2.2 v0 w0∧Below B w1 w0∧Only SC w1 w0):=by
     show _∧_
     rw [HST.out]
     obtain ⟨g1,g2,g3⟩:=HP5.out.1.grow (x:=R) HP5.out.2 (by rw [HLN.out];exact H0.out) O0.out B0.out
     exact ⟨rfl,g2,HG2.out,g1,g3 w1 A5.out.1 A5.out.2 (Nat.le_refl _) HK.out.1⟩
    have HL:Hid ((F (k+1)).2.2.1=R):=by show _=_;rw [HST.out]
    clear A1 A2 A3 A4 A5 H0 O0 B0 HP5 HST HI
    go_wp2
    go_roundg (m - (k+1))
    case measure=>omega
    case rel=>exact ⟨k+1,by omega,rfl,by rw [HL.out],by first|rfl|simp,HN⟩
  ·obtain rfl:k=m:=by omega
   have HRS:Hid (∃ v,Ending.returned (.tuple #[.int .i64 (F k).2.2.1,u9,.int .i64 0]) = .returned (.tuple #[.int .i64 LR,v,.int .i64 (F k).1])∧OwnK .i64 3 wr w1.heap.size v PR∧TapC wr B tb (F k).2.1∧Below B w1 wr∧Only SC w1 wr):=by
    show ∃ _,_
    have e2:=HRR.out
    rw [if_pos HI.out.1,if_pos HI.out.1] at e2
    rw [← e2.1,← e2.2,HI.out.1]
    exact ⟨_,rfl,HI.out.2.2.2.1.own,HI.out.2.1,HI.out.2.2.2.2⟩
   go_wp2
   exact bodyPost_ret (v:=.tuple #[.int .i64 (F k).2.2.1,u9,.int .i64 0]) (by simp [results,Tryz.results28,go_sem]) rfl HRS.out
theorem spA_mem {sts:List Sp} {i:Nat} (h:i < sts.length):spA sts i∈sts:=by
 unfold spA
 rw [List.getD_eq_getElem?_getD,List.getElem?_eq_getElem h]
 exact List.getElem_mem h
theorem RI.nil:RI []:=fun y h=>by simp at h
theorem RI.takes {l:List Int} (h:RI l) (n:Nat):RI (l.take n):=fun y hy=>h y (List.mem_of_mem_take hy)
theorem RI.drops {l:List Int} (h:RI l) (n:Nat):RI (l.drop n):=fun y hy=>h y (List.mem_of_mem_drop hy)
theorem spD_ok {op a b k:Int} (h1:1≤op∧op≤14) (ha:0≤a∧a≤1000) (hb:0≤b∧b≤1000) (hk:0≤k∧k≤1000):SpOk (spD op a b k):=⟨ha,hb,hk,h1,RI.nil,RI.nil⟩
theorem spL_ok {D X:List Int} {q:Bool} (hD:RI D) (hX:RI X):SpOk ⟨1,0,0,0,D,X,q⟩:=⟨show (0:Int)≤0∧(0:Int)≤1000 by omega,show (0:Int)≤0∧(0:Int)≤1000 by omega,show (0:Int)≤0∧(0:Int)≤1000 by omega,show (1:Int)≤1∧(1:Int)≤14 by omega,hD,hX⟩
theorem par_ri {l:Ly} {d:List Int} (hl:LayOk l) (hd:InOk d):∀ j,RI (shA (parD l d) j):=fun j=>by
 have hp:=hd.prod
 have h0:0≤d.getD 0 0∧d.getD 0 0≤1024:=by rcases hd with ⟨x,rfl,h⟩|⟨x,y,rfl,hx,hy⟩ <;> simp <;> omega
 unfold parD
 rcases layOk_cases hl with ⟨-,k,g1,g2⟩|⟨-,k,g1,g2⟩|⟨-,k,g1,g2⟩|⟨-,k,g1,g2⟩|⟨-,k,g1,g2⟩ <;> rw [k]
 ·match j with
  | 0=>intro y hy;simp [shA] at hy;omega
  | 1=>intro y hy;simp [shA] at hy;omega
  | j+2=>intro y hy;simp [shA] at hy
 ·match j with
  | 0=>intro y hy;simp [shA] at hy;simp at h0;omega
  | j+1=>intro y hy;simp [shA] at hy
 all_goals intro y hy;simp [shA] at hy
theorem prS_ok {PP:List (List Int)} {rest:List Int} (hP:∀ j,RI (shA PP j)) (hr:RI rest):∀ j,(∀ st,st∈(prS PP rest j).1→SpOk st)∧RI (prS PP rest j).2
 | 0=>⟨fun st h=>by simp [prS] at h,hr⟩
 | j+1=>by
  obtain ⟨h1,h2⟩:=prS_ok hP hr j
  refine ⟨fun st h=>?_,h2.drops _⟩
  simp only [prS,List.mem_append,List.mem_cons,List.not_mem_nil,or_false] at h
  rcases h with h|rfl
  ·exact h1 st h
  ·exact spL_ok (hP j) (h2.takes _)
theorem layS_ok {l:Ly} {d:List Int} (hl:LayOk l) (hd:InOk d) {N:Nat} (hN:N≤200) {rest:List Int} (hr:RI rest) {bf last:Int} (hb:0≤bf∧bf≤300) (ha:0≤last∧last≤300):(∀ st,st∈layS l d N rest bf last→SpOk st)∧RI (layR l d rest)∧layN l d N≤N+5:=by
 obtain ⟨h1,h2⟩:=prS_ok (par_ri hl hd) hr (parD l d).length
 refine ⟨fun st h=>?_,h2,?_⟩
 ·unfold layS at h
  rw [List.mem_append] at h
  rcases h with h|h
  ·exact h1 st h
  ·rcases layOk_cases hl with ⟨-,k,g1,g2⟩|⟨-,k,g1,g2⟩|⟨-,k,g1,g2⟩|⟨-,k,g1,g2⟩|⟨-,k,g1,g2⟩ <;> rw [k] at h
   ·simp only [if_true] at h
    unfold denS at h
    split at h <;> simp only [List.mem_cons,List.not_mem_nil,or_false] at h
    ·rcases h with rfl|rfl|rfl|rfl <;> refine spD_ok ?_ ?_ ?_ ?_ <;> omega
    ·rcases h with rfl|rfl|rfl <;> refine spD_ok ?_ ?_ ?_ ?_ <;> omega
   all_goals
    simp at h
    subst h
    refine spD_ok ?_ ?_ ?_ ?_ <;> omega
 ·unfold layN denN
  split
  ·split <;> omega
  ·split <;> omega
theorem plF_ok {d:List Int} {ls:List Ly} {S:List (List Int)} {P X:List Int} (ok:NetOk d ls S) (h16:ls.length≤16) (hd:RI d) (hP:RI P) (hX:RI X):∀ i,i≤ls.length→(∀ st,st∈(plF d ls S P X i).1→SpOk st)∧RI (plF d ls S P X i).2.1∧(0≤(plF d ls S P X i).2.2.1∧(plF d ls S P X i).2.2.1≤300)∧0≤(plF d ls S P X i).2.2.2∧(plF d ls S P X i).2.2.2≤300
 | 0,_=>by
  refine ⟨fun st h=>?_,hP,by simp [plF],by simp [plF],by simp [plF]⟩
  simp only [plF,List.mem_cons,List.not_mem_nil,or_false] at h
  subst h
  exact spL_ok hd hX
 | i+1,hi=>by
  obtain ⟨h1,h2,h3,h4⟩:=plF_ok ok h16 hd hP hX i (by omega)
  have hN:=plF_few d ls S P X i
  obtain ⟨g1,g2,g3⟩:=layS_ok (ok.lay i (by omega)) (ok.inn i (by omega)) (N:=(plF d ls S P X i).1.length) (by omega) h2 h3 h4
  refine ⟨fun st h=>?_,g2,h4,?_,?_⟩
  ·simp only [plF,List.mem_append] at h
   rcases h with h|h
   ·exact h1 st h
   ·exact g1 st h
  ·simp only [plF];omega
  ·simp only [plF];omega
/-- What Run makes: an error, the nodes, the last one, the parameters' nodes. -/
def rnF (d:List Int) (ls:List Ly) (ns:List Nd) (P X:List Int):Int×List Nd×Int×List Int:=
 if nE d ls=0 then
  if (P.length:Int)=cntP ls (nS d ls) ls.length∧(X.length:Int)=prodI d then
   if ns.length+(plF d ls (nS d ls) P X ls.length).1.length≤512 then
    ((pyF ns.length (plF d ls (nS d ls) P X ls.length).1 ns (plF d ls (nS d ls) P X ls.length).1.length).1,(pyF ns.length (plF d ls (nS d ls) P X ls.length).1 ns (plF d ls (nS d ls) P X ls.length).1.length).2.1,(if (pyF ns.length (plF d ls (nS d ls) P X ls.length).1 ns (plF d ls (nS d ls) P X ls.length).1.length).1=0 then (pyF ns.length (plF d ls (nS d ls) P X ls.length).1 ns (plF d ls (nS d ls) P X ls.length).1.length).2.2.1 else 0),(if (pyF ns.length (plF d ls (nS d ls) P X ls.length).1 ns (plF d ls (nS d ls) P X ls.length).1.length).1=0 then (pyF ns.length (plF d ls (nS d ls) P X ls.length).1 ns (plF d ls (nS d ls) P X ls.length).1.length).2.2.2 else []))
   else (2,ns,0,[])
  else (1,ns,0,[])
 else (nE d ls,ns,0,[])
theorem TapC.rn {B B' tb:Nat} {W W':World} {ns:List Nd} (h:TapC W B tb ns) (hR:Rn B' W W'):TapC W' B tb ns:=Tap.only h hR.onl (by decide) (by decide) (by decide) (by decide)
theorem InOk.ri {d:List Int} (h:InOk d):RI d:=by
 rcases h with ⟨x,rfl,h⟩|⟨x,y,rfl,hx,hy⟩ <;> intro z hz <;> simp at hz <;> omega
theorem Run_any (B tb:Nat) (ns:List Nd) (hG:NodesG ns) (hns:ns.length≤512) (d:List Int) (ls:List Ly) (P X:List Int) (hP:RI P) (hX:RI X) (hRk:nE d ls=0→∀ st,st∈(plF d ls (nS d ls) P X ls.length).1→st.op≠1→RkC st.op) (p p2 pp px:Option Addr) (n c n2 c2 np cp nx cx:Nat) (hbig:n2≤1073741823) (hPb:P.length≤1073741824) (w:World) (hT:TapC w B tb ns) (hTz:Hid (∀ W,Below B w W→Tz W)) (hKz:Hid (Kz w)) (hIn:Kept B w (.slice p n c) d) (hLy:∀ W',Rn B w W'→LyR 0 W' p2 n2 ls) (hp:Kept B w (.slice pp np cp) P) (hpc:np≤cp) (hx:Kept B w (.slice px nx cx) X):
  Calls Tryz.prog 13 #[.pointer (some ⟨tb,0,none⟩),.agg #[.slice p n c,.slice p2 n2 c2],.slice pp np cp,.slice px nx cx] w fun e w'=>∃ v,e = .returned (.tuple #[.int .i64 (rnF d ls ns P X).2.2.1,v,.int .i64 (rnF d ls ns P X).1])∧OwnK .i64 3 w' w.heap.size v (rnF d ls ns P X).2.2.2∧TapC w' B tb (rnF d ls ns P X).2.1∧Below B w w':=by
 haveI:Nonempty World:=⟨w⟩
 have hBz:B≤w.heap.size:=by
  obtain ⟨hb,_,_,hv,_⟩:=hT
  exact Nat.le_trans hb (Nat.le_of_lt (heap_lt hv))
 obtain ⟨RR,eRR⟩:∃ R,rnF d ls ns P X=R:=⟨_,rfl⟩
 obtain ⟨E,eE⟩:∃ E,nE d ls=E:=⟨_,rfl⟩
 obtain ⟨SS,eS⟩:∃ S,nS d ls=S:=⟨_,rfl⟩
 obtain ⟨sl,esl⟩:∃ sl,SS.length=sl:=⟨_,rfl⟩
 have hnp:P.length=np:=by
  obtain ⟨_,_,_,e,h⟩:=hp.nums.lst
  cases e
  exact h.out.1
 have hnx:X.length=nx:=by
  obtain ⟨_,_,_,e,h⟩:=hx.nums.lst
  cases e
  exact h.out.1
 have HR:Hid (rnF d ls ns P X=RR∧nE d ls=E∧nS d ls=SS∧SS.length=sl∧P.length=np∧X.length=nx):=⟨eRR,eE,eS,esl,hnp,hnx⟩
 have cS:Hid (∀ W,Below w.heap.size w W→Calls Tryz.prog 17 #[.agg #[.slice p n c,.slice p2 n2 c2]] W fun e w'=>∃ ps cs,e = .returned (.tuple #[.slice ps sl cs,.int .i64 E])∧OwnS w' W.heap.size (.slice ps sl cs) SS∧Below W.heap.size W w'):=fun W hW=>by
  have:=Shapes_any p p2 n c n2 c2 d ls hbig W (Hid.up_kz hKz hW) (hIn.nums.up hW) ((hLy w (Rn.refl _ _)).up hW)
  rw [eE,eS,esl] at this
  exact this
 have HK:Hid (B≤w.heap.size∧TapC w B tb ns∧NodesG ns∧ns.length≤512∧Kept B w (.slice p n c) d∧(∀ W',Rn B w W'→LyR 0 W' p2 n2 ls)∧Kept B w (.slice pp np cp) P∧np≤cp∧Kept B w (.slice px nx cx) X∧P.length≤1073741824∧RI P∧RI X∧n2≤1073741823):=⟨hBz,hT,hG,hns,hIn,hLy,hp,hpc,hx,hPb,hP,hX,hbig⟩
 have HRK:Hid (E=0→∀ st,st∈(plF d ls SS P X ls.length).1→st.op≠1→RkC st.op):=by
  show _→_
  rw [← eE,← eS]
  exact hRk
 rw [eRR]
 clear eRR eE eS esl hnp hnx hIn hLy hp hpc hx hPb hP hX hT hG hns hRk hKz hBz hbig
 go_enter Tryz.func13,Tryz.ntmps13
 go_wp2_with fail
 generalize hW0:World.alloc _ _=W0
 have HB0:Hid (Below w.heap.size w W0):=by rw [← hW0];exact up_alloc w _
 obtain ⟨g0,g1⟩:W0.cell? ⟨w.heap.size,0,none⟩=some (.slice p n c)∧W0.cell? ⟨w.heap.size,1,none⟩=some (.slice p2 n2 c2):=by rw [← hW0];simp [go_sem]
 clear hW0
 refine (cS.out W0 HB0.out).mono ?_
 rintro e w1 ⟨ps,cs,rfl,hoS,hB1⟩
 have HB1:Hid (Below w.heap.size w w1):=bstep HB0.out hB1
 replace g0:=still_cell hB1 g0
 replace g1:=still_cell hB1 g1
 by_cases h0:E=0
 case neg=>
  have hE':(E != 0)=true:=by simpa using h0
  have HRS:Hid (∃ v,Ending.returned (.tuple #[.int .i64 0,.slice none 0 0,.int .i64 E]) = .returned (.tuple #[.int .i64 RR.2.2.1,v,.int .i64 RR.1])∧OwnK .i64 3 w1 w.heap.size v RR.2.2.2∧TapC w1 B tb RR.2.1∧Below B w w1):=by
   have h5:RR=(E,ns,0,[]):=by
    rw [← HR.out.1]
    unfold rnF
    rw [HR.out.2.1,if_neg h0]
   show ∃ _,_
   rw [h5]
   exact ⟨_,rfl,OwnK.nil _ _ _ _,HK.out.2.1.up HB1.out,HB1.out.mono HK.out.1⟩
  clear hoS hB1 cS HR
  go_wp2
  exact bodyPost_ret (v:=.tuple #[.int .i64 0,.slice none 0 0,.int .i64 E]) (by simp [results,Tryz.results13,go_sem]) rfl HRS.out
 subst h0
 obtain ⟨S,hf,hs,ht⟩:=net_good HR.out.2.1
 obtain ⟨_,h4,h5⟩:=nE_ok hf hs ht
 rw [HR.out.2.2.1] at h4
 subst h4
 obtain ⟨p',c',e',hrd⟩:=hoS.rd
 cases e'
 have HOK:Hid (NetOk d ls SS∧InOk d∧ls.length≤16):=⟨NetOk.of hf hs,((formB_iff d ls).1 hf).1,by unfold tooM at ht;simp at ht;omega⟩
 have cc:=countParams_any p p2 ps n c n2 c2 _ cs d ls SS HOK.out.1 (by have:=HK.out.2.2.2.2.2.2.2.2.2.2.2.2;omega) w1 ((HK.out.2.2.2.2.2.1 w (Rn.refl _ _)).up HB1.out) hrd
 obtain ⟨ct,ect⟩:∃ ct,cntP ls SS ls.length=ct:=⟨_,rfl⟩
 rw [ect] at cc
 have HOS:Hid (OwnS w1 W0.heap.size (.slice ps SS.length cs) SS):=hoS
 clear hoS hB1 hf hs ht h5 hrd cS
 go_wp2_with fail
 refine cc.mono ?_
 rintro e w2 ⟨rfl,hB2⟩
 have HB2:Hid (Below w.heap.size w w2):=bstep HB1.out hB2
 have HOS2:Hid (OwnS w2 0 (.slice ps SS.length cs) SS):=(HOS.out.up hB2).low (Nat.zero_le _)
 replace g0:=still_cell hB2 g0
 replace g1:=still_cell hB2 g1
 have HCT:Hid (cntP ls SS ls.length=ct):=ect
 have kg:=cell_size g0
 clear hB2 cc HOS ect
 have HEG:Hid (¬ ((P.length:Int)=ct∧(X.length:Int)=prodI d)→∀ W,Below w.heap.size w W→∃ v,Ending.returned (.tuple #[.int .i64 0,.slice none 0 0,.int .i64 1]) = .returned (.tuple #[.int .i64 RR.2.2.1,v,.int .i64 RR.1])∧OwnK .i64 3 W w.heap.size v RR.2.2.2∧TapC W B tb RR.2.1∧Below B w W):=fun hne W hW=>by
  have h5:RR=(1,ns,0,[]):=by
   rw [← HR.out.1]
   unfold rnF
   rw [HR.out.2.1,HR.out.2.2.1,HCT.out,if_pos rfl,if_neg hne]
  rw [h5]
  exact ⟨_,rfl,OwnK.nil _ _ _ _,HK.out.2.1.up hW,hW.mono HK.out.1⟩
 by_cases hpn:(np:Int)=ct
 case neg=>
  have hpn':((np:Int) != ct)=true:=by simpa using hpn
  have HRS:Hid _:=HEG.out (fun h=>hpn (by rw [← HR.out.2.2.2.2.1];exact h.1)) w2 HB2.out
  clear HEG hpn
  go_wp2
  exact bodyPost_ret (v:=.tuple #[.int .i64 0,.slice none 0 0,.int .i64 1]) (by simp [results,Tryz.results13,go_sem]) rfl HRS.out
 have hpn':((np:Int) != ct)=false:=by simpa using hpn
 have cz:=csize_any (.slice p n c) d HOK.out.2.1.smal w2 (HK.out.2.2.2.2.1.nums.up HB2.out)
 obtain ⟨pd,epd⟩:∃ x,prodI d=x:=⟨_,rfl⟩
 rw [epd] at cz
 have HPD:Hid (prodI d=pd∧(np:Int)=ct):=⟨epd,hpn⟩
 clear epd hpn
 go_wp2_with fail
 refine cz.mono ?_
 rintro e w3 ⟨rfl,rfl⟩
 clear cz
 by_cases hxn:(nx:Int)=pd
 case neg=>
  have hxn':((nx:Int) != pd)=true:=by simpa using hxn
  have HRS:Hid _:=HEG.out (fun h=>hxn (by rw [← HR.out.2.2.2.2.2,← HPD.out.1];exact h.2)) w3 HB2.out
  clear HEG hxn
  go_wp2
  exact bodyPost_ret (v:=.tuple #[.int .i64 0,.slice none 0 0,.int .i64 1]) (by simp [results,Tryz.results13,go_sem]) rfl HRS.out
 have hxn':((nx:Int) != pd)=false:=by simpa using hxn
 have HXN:Hid ((nx:Int)=pd):=hxn
 clear hxn HEG
 have HR2:Hid (Rn B w w3):=Rn.of HK.out.1 HB2.out
 have cpl:=planOf_any B d ls SS HOK.out.1 HOK.out.2.2 P X (by rw [HR.out.2.2.2.2.1,HCT.out];exact HPD.out.2) HK.out.2.2.2.2.2.2.2.2.2.1 p p2 ps pp px n c n2 c2 SS.length cs np cp nx cx w3 (Nat.le_trans HK.out.1 HB2.out.size) (HK.out.2.2.2.2.1.up HR2.out) (fun W' hW'=>HK.out.2.2.2.2.2.1 W' (HR2.out.trans hW')) HOS2.out rfl (HK.out.2.2.2.2.2.2.1.up HR2.out) HK.out.2.2.2.2.2.2.2.1 (HK.out.2.2.2.2.2.2.2.2.1.up HR2.out)
 have hfew:=plF_few d ls SS P X ls.length
 have hokp:=(plF_ok HOK.out.1 HOK.out.2.2 HOK.out.2.1.ri HK.out.2.2.2.2.2.2.2.2.2.2.1 HK.out.2.2.2.2.2.2.2.2.2.2.2.1 (P:=P) (X:=X) ls.length (Nat.le_refl _)).1
 obtain ⟨sts,ests⟩:∃ z,(plF d ls SS P X ls.length).1=z:=⟨_,rfl⟩
 rw [ests] at cpl hfew hokp
 have HST:Hid ((plF d ls SS P X ls.length).1=sts∧sts.length≤97∧(∀ st,st∈sts→SpOk st)∧(∀ st,st∈sts→st.op≠1→RkC st.op)):=⟨ests,by have:=HOK.out.2.2;omega,hokp,by have:=HRK.out (by trivial);rw [ests] at this;exact this⟩
 clear hfew hokp ests HOS2
 go_wp2_with fail
 refine cpl.mono ?_
 rintro e w4 ⟨q,m,r,xs,rfl,hm,hrow,hsc,hR4⟩
 have HM:Hid (sts.length=m∧w4.ownsRow B 104 7 (.slice q m r) m xs∧StsC B w4 sts xs∧Rn B w w4):=⟨hm,hrow,hsc,HR2.out.trans hR4⟩
 have hm2:m≤97:=by rw [← hm];exact HST.out.2.1
 have HT4:Hid (TapC w4 B tb ns):=(HK.out.2.1.up HB2.out).rn hR4
 have cln:=clen_any B tb ns w4 HT4.out
 obtain ⟨nl,enl⟩:∃ nl,ns.length=nl:=⟨_,rfl⟩
 have hnl:nl≤512:=by rw [← enl];exact HK.out.2.2.2.1
 rw [enl] at cln
 have HNL:Hid (ns.length=nl):=enl
 clear cpl hm hrow hsc hR4 enl g0 g1 kg HR2
 go_wp2_with fail
 refine cln.mono ?_
 rintro e w5 ⟨rfl,rfl⟩
 clear cln
 by_cases hfit:nl+m≤512
 case neg=>
  have hfit':(512:Int) < (nl:Int)+(m:Int):=by omega
  have HRS:Hid (∃ v,Ending.returned (.tuple #[.int .i64 0,.slice none 0 0,.int .i64 2]) = .returned (.tuple #[.int .i64 RR.2.2.1,v,.int .i64 RR.1])∧OwnK .i64 3 w5 w.heap.size v RR.2.2.2∧TapC w5 B tb RR.2.1∧Below B w w5):=by
   have h5:RR=(2,ns,0,[]):=by
    rw [← HR.out.1]
    unfold rnF
    rw [HR.out.2.1,HR.out.2.2.1,HCT.out,if_pos rfl,if_pos ⟨by rw [HR.out.2.2.2.2.1];exact HPD.out.2,by rw [HR.out.2.2.2.2.2,HPD.out.1];exact HXN.out⟩,HST.out.1,HM.out.1,HNL.out,if_neg hfit]
   show ∃ _,_
   rw [h5]
   exact ⟨_,rfl,OwnK.nil _ _ _ _,HT4.out,HM.out.2.2.2.bel⟩
  clear HR HST HM hfit
  go_wp2
  exact bodyPost_ret (v:=.tuple #[.int .i64 0,.slice none 0 0,.int .i64 2]) (by simp [results,Tryz.results13,go_sem]) rfl HRS.out
 have hfit':¬ (512:Int) < (nl:Int)+(m:Int):=by omega
 have hfit2:(nl:Int)+(m:Int)≤512:=by omega
 have cpy:=play_any B tb ns HK.out.2.2.1 sts (fun i hi=>⟨HST.out.2.2.1 _ (spA_mem hi),HST.out.2.2.2 _ (spA_mem hi)⟩) (by have:=HST.out.2.1;omega) HK.out.2.2.2.1 q m r B xs HM.out.1 w5 HT4.out (by show ∀ W,_;intro W hW;exact hTz.out W (HM.out.2.2.2.bel.trans hW)) HM.out.2.1 HM.out.2.2.1
 have HRE:Hid (RR=((pyF ns.length sts ns m).1,(pyF ns.length sts ns m).2.1,(if (pyF ns.length sts ns m).1=0 then (pyF ns.length sts ns m).2.2.1 else 0),(if (pyF ns.length sts ns m).1=0 then (pyF ns.length sts ns m).2.2.2 else []))):=by
  show _=_
  rw [← HR.out.1]
  unfold rnF
  rw [HR.out.2.1,HR.out.2.2.1,HCT.out,if_pos rfl,if_pos ⟨by rw [HR.out.2.2.2.2.1];exact HPD.out.2,by rw [HR.out.2.2.2.2.2,HPD.out.1];exact HXN.out⟩,HST.out.1,HM.out.1,if_pos (by rw [HNL.out];exact hfit)]
 have cp2:Calls Tryz.prog 28 #[.pointer (some ⟨tb,0,none⟩),.slice q m r] w5 fun e w'=>∃ v,e = .returned (.tuple #[.int .i64 RR.2.2.1,v,.int .i64 RR.1])∧OwnK .i64 3 w' w.heap.size v RR.2.2.2∧TapC w' B tb RR.2.1∧Below B w w':=by
  refine cpy.mono ?_
  rintro e w' ⟨v,h1,h2,h3,h4,_⟩
  rw [HRE.out]
  exact ⟨v,h1,h2.low HM.out.2.2.2.size,h3,HM.out.2.2.2.bel.trans h4⟩
 clear cpy HRE HST HR HM hfit HK HPD HXN HCT HOK HT4 HRK
 go_wp2_with fail
 refine cp2.mono ?_
 rintro e w6 ⟨v6,rfl,h6⟩
 have HF:Hid _:=h6
 clear h6 cp2
 go_wp2
 exact bodyPost_ret (v:=.tuple #[.int .i64 RR.2.2.1,v6,.int .i64 RR.1]) (by simp [results,Tryz.results13,go_sem]) rfl ⟨_,rfl,HF.out⟩
theorem pyF_G {f:Int} {sts:List Sp} {ns:List Nd} (hG:NodesG ns) (hX:∀ st,st∈sts→RI st.X):∀ i,NodesG (pyF f sts ns i).2.1
 | 0=>hG
 | i+1=>by
  have ih:=pyF_G (f:=f) hG hX i
  unfold pyF
  split
  ·dsimp only
   refine ih.st ?_
   by_cases h:i < sts.length
   ·exact hX _ (spA_mem h)
   ·unfold spA
    rw [List.getD_eq_getElem?_getD,List.getElem?_eq_none (by omega)]
    exact RI.nil
  ·exact ih
/-- What Run leaves on the tape are nodes. -/
theorem rnF_G {d:List Int} {ls:List Ly} {ns:List Nd} {P X:List Int} (hG:NodesG ns) (hP:RI P) (hX:RI X):NodesG (rnF d ls ns P X).2.1:=by
 unfold rnF
 by_cases h0:nE d ls=0
 ·rw [if_pos h0]
  by_cases h1:(P.length:Int)=cntP ls (nS d ls) ls.length∧(X.length:Int)=prodI d
  ·rw [if_pos h1]
   by_cases h2:ns.length+(plF d ls (nS d ls) P X ls.length).1.length≤512
   ·rw [if_pos h2]
    refine pyF_G hG (fun st hst=>?_) _
    obtain ⟨S,hf,hs,ht⟩:=net_good h0
    obtain ⟨_,h4,_⟩:=nE_ok hf hs ht
    rw [h4] at hst
    exact ((plF_ok (NetOk.of hf hs) (by unfold tooM at ht;simp at ht;omega) ((formB_iff d ls).1 hf).1.ri hP hX ls.length (Nat.le_refl _)).1 st hst).rX
   ·rw [if_neg h2]
    exact hG
  ·rw [if_neg h1]
   exact hG
 ·rw [if_neg h0]
  exact hG
/-- "in 2 dense 1" -/
def aw12:ByteArray:=⟨#[105,110,32,50,32,100,101,110,115,101,32,49]⟩
abbrev awL:List Ly:=[(kDense,1,0)]
theorem aw_nE:nE [2] awL=0:=by decide +kernel
theorem aw_nP:nP [2] awL=3:=by decide +kernel
theorem aw_pE:pE aw12=0:=by decide +kernel
theorem aw_pX:pX aw12=([2],awL):=by decide +kernel
theorem aw_txt:netT [2] awL=aw12:=by decide +kernel
theorem aw_rE:(rnF [2] awL [] [4294967296,8589934592,5] [3,4]).1=0:=by decide +kernel
theorem aw_rL:(rnF [2] awL [] [4294967296,8589934592,5] [3,4]).2.2.1=5:=by decide +kernel
theorem aw_rP:(rnF [2] awL [] [4294967296,8589934592,5] [3,4]).2.2.2 = [1,2]:=by decide +kernel
theorem aw_rN:(rnF [2] awL [] [4294967296,8589934592,5] [3,4]).2.1.length=6:=by decide +kernel
theorem aw_rX:(rnF [2] awL [] [4294967296,8589934592,5] [3,4]).2.1.map (fun nd=>(nd.D,nd.X)) = [([2],[3,4]),([1,2],[4294967296,8589934592]),([1],[5]),([1,2],[3,8]),([1],[11]),([1],[16])]:=by decide +kernel
theorem aw_op:∀ st,st∈(plF [2] awL (nS [2] awL) [4294967296,8589934592,5] [3,4] awL.length).1→st.op=1∨st.op=4∨st.op=8∨st.op=2:=by
 have h:((plF [2] awL (nS [2] awL) [4294967296,8589934592,5] [3,4] awL.length).1.map Sp.op) = [1,1,1,4,8,2]:=by decide +kernel
 intro st hst
 have:=List.mem_map_of_mem (f:=Sp.op) hst
 rw [h] at this
 simp at this
 omega
theorem awake12_any (w:World) (hT:Hid (Tz w)) (hK:Hid (Kz w)) (hP:Hid (Pz w)):
  Calls Tryz.prog 4 #[] w fun e w'=>e = .returned (.bool true)∧Below w.heap.size w w':=by
 haveI:Nonempty World:=⟨w⟩
 have cp:=Parse_any aw12 w hK
 rw [aw_pE,aw_pX] at cp
 go_enter Tryz.func4,Tryz.ntmps4
 go_wp2_with fail
 refine cp.mono ?_
 rintro e w1 ⟨p,n,c,p2,n2,c2,rfl,hd,hl,hB1⟩
 obtain ⟨p',c',e',hl2⟩:=hl.rd
 cases e'
 have HA:Hid (OwnK .i64 3 w1 w.heap.size (.slice p n c) [2]∧LyR 0 w1 p2 1 awL∧Below w.heap.size w w1):=⟨hd,hl2,hB1⟩
 clear hd hl hl2 hB1 cp
 go_wp2_with fail
 generalize hW2:World.alloc _ _=W2
 have hB2:Below w1.heap.size w1 W2:=by rw [← hW2];exact up_alloc w1 _
 obtain ⟨g0,g1⟩:W2.cell? ⟨w1.heap.size,0,none⟩=some (.slice p n c)∧W2.cell? ⟨w1.heap.size,1,none⟩=some (.slice p2 1 c2):=by rw [← hW2];simp [go_sem]
 have HA2:Hid (OwnK .i64 3 W2 w.heap.size (.slice p n c) [2]∧LyR 0 W2 p2 1 awL∧Below w.heap.size w W2):=⟨HA.out.1.up hB2,HA.out.2.1.up hB2,bstep HA.out.2.2 hB2⟩
 have cq:=Params_any p p2 n c 1 c2 [2] awL (by decide) W2 (Hid.up_kz hK HA2.out.2.2) HA2.out.1.nums HA2.out.2.1
 rw [aw_nP,aw_nE] at cq
 clear hW2 hB2 HA
 refine cq.mono ?_
 rintro e w3 ⟨rfl,hB3⟩
 have HA3:Hid (OwnK .i64 3 w3 w.heap.size (.slice p n c) [2]∧LyR 0 w3 p2 1 awL∧Below w.heap.size w w3):=⟨HA2.out.1.up hB3,HA2.out.2.1.up hB3,bstep HA2.out.2.2 hB3⟩
 replace g0:=still_cell hB3 g0
 replace g1:=still_cell hB3 g1
 have HG3:Hid (w3.cell? ⟨w1.heap.size,0,none⟩=some (.slice p n c)∧w3.cell? ⟨w1.heap.size,1,none⟩=some (.slice p2 1 c2)):=⟨g0,g1⟩
 clear hB3 HA2 cq
 go_wp2_with fail
 refine (cnew_any w3).mono ?_
 rintro e w4 ⟨tb,rfl,hT4,hB4⟩
 have HT4:Hid (TapC w4 w3.heap.size tb []∧Below w3.heap.size w3 w4):=⟨hT4,hB4⟩
 replace g0:=still_cell hB4 g0
 replace g1:=still_cell hB4 g1
 have kg0:=cell_size g0
 clear hT4 hB4
 go_wp2_with fail
 generalize hK5:World.alloc _ _=K5
 have hL4:Below w4.heap.size w4 (w4.alloc (.cells #[.int .i64 4294967296,.int .i64 8589934592,.int .i64 5] 46)):=up_alloc w4 _
 have hL5:Below w4.heap.size w4 K5:=by rw [← hK5];exact bstep hL4 (up_alloc _ _)
 have hL6:Below (w4.heap.size+1) (w4.alloc (.cells #[.int .i64 4294967296,.int .i64 8589934592,.int .i64 5] 46)) K5:=by
  rw [← hK5]
  have:=up_alloc (w4.alloc (.cells #[.int .i64 4294967296,.int .i64 8589934592,.int .i64 5] 46)) (.cells #[.int .i64 3,.int .i64 4] 46)
  rw [show (w4.alloc (.cells #[.int .i64 4294967296,.int .i64 8589934592,.int .i64 5] 46)).heap.size=w4.heap.size+1 by simp] at this
  exact this
 have l1:OwnK .i64 46 K5 w4.heap.size (.slice (some ⟨w4.heap.size,0,none⟩) 3 3) [4294967296,8589934592,5]:=by
  have h:=own_lit (k:=.i64) (e:=46) w4 [4294967296,8589934592,5] 3 rfl (by decide)
  refine h.up ?_
  rw [← hK5]
  exact up_alloc _ _
 have l2:OwnK .i64 46 K5 (w4.heap.size+1) (.slice (some ⟨w4.heap.size+1,0,none⟩) 2 2) [3,4]:=by
  have h:=own_lit (k:=.i64) (e:=46) (w4.alloc (.cells #[.int .i64 4294967296,.int .i64 8589934592,.int .i64 5] 46)) [3,4] 2 rfl (by decide)
  rw [show (w4.alloc (.cells #[.int .i64 4294967296,.int .i64 8589934592,.int .i64 5] 46)).heap.size=w4.heap.size+1 by simp] at h
  rw [← hK5]
  exact h
 have HB5:Hid (Below w3.heap.size w3 K5):=bstep HT4.out.2 hL5
 have cr:=Run_any w3.heap.size tb [] NodesG.nil (by simp) [2] awL [4294967296,8589934592,5] [3,4] (RI_kern (by decide +kernel)) (RI_kern (by decide +kernel)) (fun _ st hst ho=>by
  rcases aw_op st hst with h|h|h|h
  ·exact absurd h ho
  ·rw [h];exact RkC.of (by decide) ck4
  ·rw [h];exact RkC.of (by decide) ck8
  ·rw [h];exact RkC.of (by decide) ck2) p p2 (some ⟨w4.heap.size,0,none⟩) (some ⟨w4.heap.size+1,0,none⟩) n c 1 c2 3 3 2 2 (by decide) (by simp) K5 (HT4.out.1.up hL5) (by show ∀ W,_;intro W hW;exact (Hid.up_tz hT (bstep HA3.out.2.2 (HB5.out.trans hW))).out) (Hid.up_kz hK (bstep HA3.out.2.2 HB5.out)) (Kept.below HA3.out.1.nums (Nat.le_refl _) HB5.out) (fun W' hW'=>HA3.out.2.1.up (HB5.out.trans hW'.bel)) (l1.kept (by decide)) (by decide) (l2.kept (by decide))
 rw [aw_rE,aw_rL,aw_rP] at cr
 replace g0:=still_cell hL5 g0
 replace g1:=still_cell hL5 g1
 obtain ⟨NS,eNS⟩:∃ z,(rnF [2] awL [] [4294967296,8589934592,5] [3,4]).2.1=z:=⟨_,rfl⟩
 have HNS:Hid (NodesG NS∧∃ nd,NS[5]?=some nd∧nd.D = [1]∧nd.X = [16]):=by
  rw [← eNS]
  refine ⟨rnF_G NodesG.nil (RI_kern (by decide +kernel)) (RI_kern (by decide +kernel)),?_⟩
  have h1:=aw_rN
  obtain ⟨nd,hnd⟩:∃ nd,(rnF [2] awL [] [4294967296,8589934592,5] [3,4]).2.1[5]?=some nd:=⟨_,List.getElem?_eq_getElem (by rw [h1];decide)⟩
  have h2:((rnF [2] awL [] [4294967296,8589934592,5] [3,4]).2.1.map (fun nd=>(nd.D,nd.X)))[5]?=some ([1],[16]):=by rw [aw_rX];rfl
  rw [List.getElem?_map,hnd] at h2
  simp at h2
  exact ⟨nd,hnd,h2.1,h2.2⟩
 rw [eNS] at cr
 clear eNS l1 l2 hL4 hL5 hL6 hK5
 refine cr.mono ?_
 rintro e w6 ⟨v6,rfl,ho6,hT6,hB6⟩
 obtain ⟨pv,nv,cv,rfl,HCv⟩:=ho6.nums.lst
 have hnv:2=nv:=HCv.out.1
 subst hnv
 have HA6:Hid (Below w3.heap.size w3 w6):=HB5.out.trans hB6
 replace g0:=still_cell HA6.out HG3.out.1
 replace g1:=still_cell HA6.out HG3.out.2
 have kg6:=cell_size g0
 have HT6:Hid (TapC w6 w3.heap.size tb NS):=hT6
 clear ho6 hT6 hB6 cr HCv kg0
 go_wp2_with fail
 obtain ⟨hGN,nd,hnd,hD,hX⟩:=HNS.out
 have cv:=cvalue_any w3.heap.size tb NS hGN 5 nd hnd w6 HT6.out
 rw [hD,hX] at cv
 refine cv.mono ?_
 rintro e w7 ⟨v7,rfl,⟨s7,t7,rfl,hs7,ht7⟩,hB7⟩
 obtain ⟨ps7,ns7,cs7,rfl⟩:=hs7.form_
 obtain ⟨pt7,nt7,ct7,rfl,HC7⟩:=ht7.nums.lst
 have hnt:1=nt7:=HC7.out.1
 subst hnt
 obtain ⟨q7,o7,rfl,c7⟩:=HC7.out.2 0 (by decide)
 rw [Nat.add_zero] at c7
 have c70:w7.cell? ⟨q7,o7,none⟩=some (.int .i64 16):=c7
 have HA7:Hid (Below w3.heap.size w3 w7):=bstep HA6.out hB7
 replace g0:=still_cell hB7 g0
 replace g1:=still_cell hB7 g1
 have kg7:=cell_size g0
 have kc7:=cell_size c70
 have hn1:LyR 0 w7 p2 1 awL:=HA3.out.2.1.up HA7.out
 have cx:Hid (∀ W,Below w7.heap.size w7 W→Calls Tryz.prog 9 #[.agg #[.slice p n c,.slice p2 1 c2]] W fun e w'=>e = .returned (.string aw12)∧Below W.heap.size W w'):=fun W hW=>by
  have h5:=bstep HA3.out.2.2 (bstep HA7.out hW)
  have:=Text_any p p2 n c 1 c2 [2] awL (by decide) W (Hid.up_kz hK h5) (Hid.up_pz hP h5) (HA3.out.1.nums.up (bstep HA7.out hW)) (hn1.up hW)
  rw [aw_txt] at this
  exact this
 clear cv hGN hnd hD hX c7 HC7 hs7 ht7 hB7 hn1
 go_wp2_with fail
 refine (cx.out _ (up_alloc w7 _)).mono ?_
 rintro e w8 ⟨rfl,hB8⟩
 have HF:Hid (Below w.heap.size w w8):=bstep HA3.out.2.2 (bstep HA7.out (bstep (up_alloc w7 _) hB8))
 clear hB8 cx
 have haw:(aw12.toList == [105,110,32,50,32,100,101,110,115,101,32,49])=true:=by decide +kernel
 go_wp2
 go_ret
 exact ⟨rfl,HF.out⟩
end Go.Proofs.YtihjnbbhpojnpaaGreatDoor.Wd
namespace Go.Proofs.YtihjnbbhpojnpaaGreatDoor.Wd
open Go.ChangeShapes Go.WideShapes Go.ChangeAt Go.RowKit Go.Joins Go.Deep
end Go.Proofs.YtihjnbbhpojnpaaGreatDoor.Wd
namespace Go.Proofs.YtihjnbbhpojnpaaGreatDoor.Wd
open Go.RowKit Fx
/-- The document's own of a net, in new memory. -/
def NetV (u:Value) (n:Nat) (ls:List Ly) (v:Value) (W:World):Prop:=∃ p c B,v = .agg #[u,.slice p n c]∧LyE 61 W B (.slice p n c) ls
theorem NetV.up {u:Value} {n:Nat} {ls:List Ly} {v:Value} {W W':World} (h:NetV u n ls v W) (hB:Below W.heap.size W W'):NetV u n ls v W':=by
 obtain ⟨p,c,B,e,h⟩:=h
 exact ⟨p,c,B,e,h.up hB⟩
theorem join_cons (a b:List UInt8) (r:List (List UInt8)):Lib.join (a :: b :: r) [32]=a++([32]++Lib.join (b :: r) [32]):=by
 simp [Lib.join,List.intercalate,List.intersperse]
theorem join_app:∀ (l:List (List UInt8)) (u:List UInt8),l≠[]→Lib.join (l++[u]) [32]=Lib.join l [32]++[32]++u
 | [],u,h=>absurd rfl h
 | [a],u,_=>by
  show Lib.join (a :: u :: []) [32]=_
  rw [join_cons]
  simp [Lib.join,List.intercalate,List.intersperse]
 | a :: b :: r,u,_=>by
  have:=join_app (b :: r) u (by simp)
  show Lib.join (a :: b :: (r++[u])) [32]=_
  rw [join_cons,join_cons,show b :: (r++[u])=(b :: r)++[u] from rfl,this]
  simp [List.append_assoc]
theorem joinW_app (ws:List ByteArray) (u:ByteArray) (h:ws≠[]):joinW (ws++[u])=joinW ws++⟨#[32]⟩++u:=by
 apply ba_ext
 rw [ba_app,ba_app]
 unfold joinW
 rw [List.map_append,List.map_cons,List.map_nil,join_app _ _ (by simpa using h)]
theorem joinW_small {ws:List ByteArray} (h:∀ w∈ws,w.data.toList.length≤5) (hn:ws.length≤60):(joinW ws).size≤400:=by
 have h1:=join_len 5 (ws.map (·.data.toList)) fun u hu=>by
  obtain ⟨x,hx,rfl⟩:=List.mem_map.1 hu
  exact h x hx
 have h3:(joinW ws).size=(Lib.join (ws.map (·.data.toList)) [32]).length:=by
  unfold joinW
  simp [ByteArray.size]
 rw [List.length_map] at h1
 omega
/-- The words that were written behind k layers. -/
def wrL (d:List Int) (ls:List Ly) (k:Nat):List ByteArray:=kIn :: (d.map dgB++(ls.take k).flatMap lyW)
theorem wrL_ok {d:List Int} {ls:List Ly} (hd:InOk d) (hl:∀ l∈ls,LayOk l) (k:Nat):∀ w∈wrL d ls k,w.data.toList.length≤5:=fun w hw=>(netW_ok hd (fun l h=>hl l (List.mem_of_mem_take h)) w hw).2
theorem wrL_len {d:List Int} {ls:List Ly} (hd:InOk d) (hn:ls.length≤16) (k:Nat):(wrL d ls k).length≤51:=by
 unfold wrL
 have:=wdsL_len (ls.take k)
 have:=(in_rng hd).1
 simp only [List.length_cons,List.length_append,List.length_map,List.length_take] at this ⊢
 have h3:(ls.take k).length≤16:=by simp;omega
 have:=wdsL_len (ls.take k)
 omega
theorem wrI_ok {d:List Int} (hd:InOk d) (k:Nat):∀ w∈kIn :: (d.take k).map dgB,w.data.toList.length≤5:=fun w hw=>by
 simp only [List.mem_cons,List.mem_map] at hw
 rcases hw with rfl|⟨x,hx,rfl⟩
 ·simp [kIn]
 ·exact (dg_ok ((in_rng hd).2.2 x (List.mem_of_mem_take hx))).2.2
theorem rtext_any (p p2:Option Addr) (n c n2 c2:Nat) (d:List Int) (ls:List Ly) (hbig:n2≤1073741823) (w:World) (h1:Nums .i64 w (.slice p n c) d) (hL:LyR 0 w p2 n2 ls):
  Calls Tryz.prog 10 #[.agg #[.slice p n c,.slice p2 n2 c2]] w fun e w'=>e = .returned (.string (netT d ls))∧Below w.heap.size w w':=by
 haveI:Nonempty World:=⟨w⟩
 have HK:Hid (Nums .i64 w (.slice p n c) d∧LyR 0 w p2 n2 ls):=⟨h1,hL⟩
 obtain ⟨X,eX⟩:∃ X,netT d ls=X:=⟨_,rfl⟩
 have HT:Hid (netT d ls=X):=eX
 rw [eX]
 clear h1 hL eX
 go_enter Tryz.func10,Tryz.ntmps10
 go_wp2_with fail
 generalize hW0:World.alloc _ _=W0
 have HB0:Hid (Below w.heap.size w W0):=by rw [← hW0];exact up_alloc w _
 obtain ⟨g0,g1⟩:W0.cell? ⟨w.heap.size,0,none⟩=some (.slice p n c)∧W0.cell? ⟨w.heap.size,1,none⟩=some (.slice p2 n2 c2):=by rw [← hW0];simp [go_sem]
 clear hW0
 obtain ⟨E,eE⟩:∃ E,nE d ls=E:=⟨_,rfl⟩
 obtain ⟨P,eP⟩:∃ P,nP d ls=P:=⟨_,rfl⟩
 have HE:Hid (nE d ls=E):=eE
 refine (rshapes_any p p2 n c n2 c2 d ls hbig W0 (HK.out.1.up HB0.out) (HK.out.2.up HB0.out)).mono ?_
 rintro e w1 ⟨⟨v1,rfl,hv1⟩,hB⟩
 obtain ⟨pv,cv,rfl,-⟩:=hv1.rd
 rw [eE,eP]
 have HB1:Hid (Below w.heap.size w w1):=bstep HB0.out hB
 replace g0:=still_cell hB g0
 replace g1:=still_cell hB g1
 have kg:=cell_size g0
 clear hB HB0 eE eP hv1
 by_cases h0:E=0
 case neg=>
  have h0':(E != 0)=true:=by simpa using h0
  have hx:X=⟨#[]⟩:=by rw [← HT.out];exact if_neg (by rw [HE.out];exact h0)
  subst hx
  clear h0
  go_wp2
  go_ret
  exact ⟨rfl,HB1.out⟩
 subst h0
 obtain ⟨hd,hly,hn16⟩:=few16 HE.out
 have HD:Hid (InOk d∧(∀ l∈ls,LayOk l)∧ls.length≤16):=⟨hd,hly,hn16⟩
 obtain ⟨p',n',c',e',HC⟩:=HK.out.1.lst
 cases e'
 have hn2:(n:Int)≤2:=by have:=(in_rng hd).1;rw [HC.out.1] at this;omega
 have hm16:(n2:Int)≤16:=by rw [HK.out.2.1] at hn16;omega
 have HG1:Hid (w1.cell? ⟨w.heap.size,0,none⟩=some (.slice p n c)∧w1.cell? ⟨w.heap.size,1,none⟩=some (.slice p2 n2 c2)):=⟨g0,g1⟩
 clear hd hly hn16 g0 g1 kg
 go_wp2_with fail
 go_loopg [6,7] n (fun gg u v wr=>∃ (k:Nat) (s:ByteArray),k≤n∧gg=n - k∧u = .string s∧v = .int .i64 (k:Int)∧Hid (s=joinW (kIn :: (d.take k).map dgB))∧Hid (Below w1.heap.size w1 wr))
 case atStart=>exact ⟨0,kIn,by omega,by omega,rfl,rfl,by show _=_;apply ba_ext;simp [joinW,Lib.join],Below.refl _ _⟩
 case round=>
  obtain ⟨k,s,hk,hg,rfl,rfl,Hs,HB⟩:=hrel
  have g0:=still_cell HB.out HG1.out.1
  have g1:=still_cell HB.out HG1.out.2
  have kg:=cell_size g0
  by_cases hkn:k < n
  ·have hk':(k:Int) < (n:Int):=by omega
   obtain ⟨q,o,rfl,hc0⟩:=HC.out.2 k hkn
   have hkl:k < d.length:=by rw [HC.out.1];exact hkn
   have hx:=in_at HD.out.1 k hkl
   obtain ⟨x,ex⟩:∃ x,d.getD k 0=x:=⟨_,rfl⟩
   rw [ex] at hc0 hx
   replace hc0:=still_cell (bstep HB1.out HB.out) hc0
   have kc:=cell_size hc0
   have hs4:s.size≤400:=by rw [Hs.out];exact joinW_small (wrI_ok HD.out.1 k) (by have:=(in_rng HD.out.1).1;simp;omega)
   have hx5:(dgB x).size≤5:=by rw [size_list];exact (dg_ok (by omega)).2.2
   have HS2:Hid (s++⟨#[32]⟩++dgB x=joinW (kIn :: (d.take (k+1)).map dgB)):=by
    show _=_
    rw [take_map d k hkl,ex,← List.cons_append,joinW_app _ _ (by simp),← Hs.out]
   have h1s:(⟨#[32]⟩:ByteArray).size=1:=rfl
   have hss:(s++⟨#[32]⟩).size≤401:=by rw [ByteArray.size_append];omega
   clear ex hkl
   go_wp2_with fail
   refine (Rf.num_any x (by omega) wr).mono ?_
   rintro e w2 ⟨rfl,hB2⟩
   have HB2:Hid (Below w1.heap.size w1 w2):=bstep HB.out hB2
   clear hB2 hc0 kc g0 g1 kg
   go_wp2
   go_roundg (n - (k+1))
   case measure=>omega
   case rel=>exact ⟨k+1,_,by omega,rfl,rfl,by first|rfl|simp,HS2,HB2⟩
  ·obtain rfl:k=n:=by omega
   obtain ⟨wa,ewa⟩:∃ wa:World,wa=wr:=⟨_,rfl⟩
   subst ewa
   have hs0:s=joinW (wrL d ls 0):=by
    rw [Hs.out,List.take_of_length_le (by rw [HC.out.1];exact Nat.le_refl _)]
    simp [wrL]
   have HS0:Hid (s=joinW (wrL d ls 0)):=hs0
   have HW:Hid (wa.cell? ⟨w.heap.size,1,none⟩=some (.slice p2 n2 c2)∧Below w.heap.size w wa):=⟨g1,bstep HB1.out HB.out⟩
   clear hs0 Hs HB
   go_wp2_with fail
   clear g0 g1 kg
   go_loopg [6,8] n2 (fun gg u v wr=>∃ (j:Nat) (t:ByteArray),j≤n2∧gg=n2 - j∧u = .string t∧v = .int .i64 (j:Int)∧Hid (t=joinW (wrL d ls j))∧Hid (Below wa.heap.size wa wr))
   case atStart=>exact ⟨0,s,by omega,by omega,rfl,rfl,HS0,Below.refl _ _⟩
   case round=>
    obtain ⟨j,t,hj,hg2,rfl,rfl,Ht,HB⟩:=hrel
    have g1:=still_cell HB.out HW.out.1
    have kg:=cell_size g1
    by_cases hjn:j < n2
    ·have hj':(j:Int) < (n2:Int):=by omega
     have hjl:j < ls.length:=by rw [HK.out.2.1];exact hjn
     obtain ⟨q,o,rfl,c0,c1,c2'⟩:=(HK.out.2.up (bstep HW.out.2 HB.out)).2 j hjn
     have hl:=HD.out.2.1 _ (lyA_mem hjl)
     have HN:Hid (joinW (wrL d ls (j+1))=joinW (wrL d ls j++lyW (lyA ls j))):=by
      show _=_
      unfold wrL
      rw [take_flat ls j hjl]
      simp
     obtain ⟨l,el⟩:∃ l,lyA ls j=l:=⟨_,rfl⟩
     obtain ⟨s',x,y⟩:=l
     rw [el] at c0 c1 c2' hl HN
     have hlt:=cell_size c0
     have ht4:t.size≤400:=by rw [Ht.out];exact joinW_small (wrL_ok HD.out.1 HD.out.2.1 j) (by have:=wrL_len HD.out.1 HD.out.2.2 j;omega)
     have hw:=kind_w s' hl.1
     have hs5:s'.size≤5:=by rw [size_list];exact hw.2.2
     have h1s:(⟨#[32]⟩:ByteArray).size=1:=rfl
     have ht1:(t++⟨#[32]⟩).size≤401:=by rw [ByteArray.size_append];omega
     have ht2:(t++⟨#[32]⟩++s').size≤406:=by rw [ByteArray.size_append];omega
     have ht3:(t++⟨#[32]⟩++s'++⟨#[32]⟩).size≤407:=by rw [ByteArray.size_append];omega
     obtain ⟨k0,k1,k2,k3,k4⟩:=kts s'
     have HBn:Hid (∀ W,Below wr.heap.size wr W→Below wa.heap.size wa W):=fun W hW=>bstep HB.out hW
     have HJ0:Hid (joinW (wrL d ls j++[s'])=t++⟨#[32]⟩++s'):=by show _=_;rw [joinW_app _ _ (by simp [wrL]),← Ht.out]
     have HJ1:Hid (∀ u,joinW (wrL d ls j++[s',u])=t++⟨#[32]⟩++s'++⟨#[32]⟩++u):=fun u=>by
      rw [show wrL d ls j++[s',u]=(wrL d ls j++[s'])++[u] by simp,joinW_app _ _ (by simp),HJ0.out]
     have HJ2:Hid (∀ u v,joinW (wrL d ls j++[s',u,v])=t++⟨#[32]⟩++s'++⟨#[32]⟩++u++⟨#[32]⟩++v):=fun u v=>by
      rw [show wrL d ls j++[s',u,v]=(wrL d ls j++[s',u])++[v] by simp,joinW_app _ _ (by simp),HJ1.out]
     have hcase:(kindI s'=4)∨(kindI s'=1∧(1≤x∧x≤256)∧1≤y∧y≤256)∨((kindI s'≠4∧kindI s'≠1∧kindI s' < 4)∧1≤x∧x≤256):=by
      rcases layOk_cases hl with ⟨-,h,h1,h2⟩|⟨-,h,h1,h2⟩|⟨-,h,h1,h2⟩|⟨-,h,h1,h2⟩|⟨-,h,h1,h2⟩ <;> simp only [] at h h1 h2 <;> omega
     clear el hl hw hjl
     rcases hcase with h4|⟨h4,hx,hy⟩|⟨⟨h4,h5,h6⟩,hx⟩
     ·have HF:Hid (t++⟨#[32]⟩++s'=joinW (wrL d ls (j+1))):=by
       show _=_
       rw [HN.out,← HJ0.out]
       unfold lyW
       simp [h4]
      have m4:(s'.toList != [115,107,105,112])=false:=by show (!_)=_;rw [k4,decide_eq_true h4];rfl
      rw [decide_eq_true h4] at k4
      rw [decide_eq_false (by omega)] at k1
      clear h4
      go_wp2
      go_roundg (n2 - (j+1))
      case measure=>omega
      case rel=>exact ⟨j+1,_,by omega,rfl,rfl,by first|rfl|simp,HF,HBn.out _ (up_alloc _ _)⟩
     ·have hx5:(dgB x).size≤5:=by rw [size_list];exact (dg_ok (by omega)).2.2
      have hy5:(dgB y).size≤5:=by rw [size_list];exact (dg_ok (by omega)).2.2
      have HF:Hid (t++⟨#[32]⟩++s'++⟨#[32]⟩++dgB x++⟨#[32]⟩++dgB y=joinW (wrL d ls (j+1))):=by
       show _=_
       rw [HN.out,← HJ2.out]
       unfold lyW
       simp [h4]
      have m4:(s'.toList != [115,107,105,112])=true:=by show (!_)=_;rw [k4,decide_eq_false (by omega)];rfl
      rw [decide_eq_false (by omega)] at k4
      rw [decide_eq_true h4] at k1
      have ht5:(t++⟨#[32]⟩++s'++⟨#[32]⟩++dgB x).size≤412:=by rw [ByteArray.size_append];omega
      have ht6:(t++⟨#[32]⟩++s'++⟨#[32]⟩++dgB x++⟨#[32]⟩).size≤413:=by rw [ByteArray.size_append];omega
      clear h4
      go_wp2_with fail
      generalize hW2:World.alloc _ _=W2
      have hB2:Below wr.heap.size wr W2:=by rw [← hW2];exact up_alloc wr _
      obtain ⟨e0,e1,e2⟩:W2.cell? ⟨wr.heap.size,0,none⟩=some (.string s')∧W2.cell? ⟨wr.heap.size,1,none⟩=some (.int .i64 x)∧W2.cell? ⟨wr.heap.size,2,none⟩=some (.int .i64 y):=by rw [← hW2];simp [go_sem]
      clear hW2
      refine (Rf.num_any x (by omega) W2).mono ?_
      rintro e w5 ⟨rfl,hB5⟩
      replace e0:=still_cell hB5 e0
      replace e1:=still_cell hB5 e1
      replace e2:=still_cell hB5 e2
      have ke:=cell_size e0
      have HB5:Hid (Below wr.heap.size wr w5):=bstep hB2 hB5
      clear hB2 hB5
      go_wp2_with fail
      refine (Rf.num_any y (by omega) w5).mono ?_
      rintro e w6 ⟨rfl,hB6⟩
      have HB6:Hid (Below wa.heap.size wa w6):=HBn.out _ (bstep HB5.out hB6)
      clear hB6
      go_wp2
      go_roundg (n2 - (j+1))
      case measure=>omega
      case rel=>exact ⟨j+1,_,by omega,rfl,rfl,by first|rfl|simp,HF,HB6⟩
     ·have hx5:(dgB x).size≤5:=by rw [size_list];exact (dg_ok (by omega)).2.2
      have HF:Hid (t++⟨#[32]⟩++s'++⟨#[32]⟩++dgB x=joinW (wrL d ls (j+1))):=by
       show _=_
       rw [HN.out,← HJ1.out]
       unfold lyW
       simp [h5,h6]
      have m4:(s'.toList != [115,107,105,112])=true:=by show (!_)=_;rw [k4,decide_eq_false h4];rfl
      rw [decide_eq_false h4] at k4
      rw [decide_eq_false h5] at k1
      clear h4 h5 h6
      go_wp2_with fail
      generalize hW2:World.alloc _ _=W2
      have hB2:Below wr.heap.size wr W2:=by rw [← hW2];exact up_alloc wr _
      obtain ⟨e0,e1,e2⟩:W2.cell? ⟨wr.heap.size,0,none⟩=some (.string s')∧W2.cell? ⟨wr.heap.size,1,none⟩=some (.int .i64 x)∧W2.cell? ⟨wr.heap.size,2,none⟩=some (.int .i64 y):=by rw [← hW2];simp [go_sem]
      clear hW2
      refine (Rf.num_any x (by omega) W2).mono ?_
      rintro e w5 ⟨rfl,hB5⟩
      replace e0:=still_cell hB5 e0
      have ke:=cell_size e0
      have HB5:Hid (Below wa.heap.size wa w5):=HBn.out _ (bstep hB2 hB5)
      clear hB2 hB5
      go_wp2
      go_roundg (n2 - (j+1))
      case measure=>omega
      case rel=>exact ⟨j+1,_,by omega,rfl,rfl,by first|rfl|simp,HF,HB5⟩
    ·obtain rfl:j=n2:=by omega
     have hfin:t=X:=by
      rw [Ht.out,← HT.out]
      unfold wrL netT netW
      rw [if_pos HE.out,List.take_of_length_le (by rw [HK.out.2.1];exact Nat.le_refl _)]
     subst hfin
     go_wp2
     go_ret
     exact ⟨rfl,bstep HW.out.2 HB.out⟩
end Go.Proofs.YtihjnbbhpojnpaaGreatDoor.Wd
namespace Go.Proofs.YtihjnbbhpojnpaaGreatDoor.Wd
open Go.RowKit
theorem kind_cells {H:Type} {enc:TypeId×Value→H} {P:Program} {w:World} {base:Nat} {sp:Nat→Bool} {held:Bool} {fuel:Nat} {e q:TypeId} {f0 f1 f2:Field} {ds:List Value} {bs:List UInt8} {a b c:Int} {p:List MemPlace}
  (he:P.underlying e=some (.struct #[f0,f1,f2])) (ce:P.cellsOf e=4) (o0:f0.offset=0) (o1:f1.offset=1) (o2:f2.offset=2) (c0:P.cellsOf f0.type=1) (c1:P.cellsOf f1.type=1) (c2:P.cellsOf f2.type=2)
  (u0:P.underlying f0.type=some .string) (u1:P.underlying f1.type=some (.int .i64)) (u2:P.underlying f2.type=some (.array 2 q)) (uq:P.underlying q=some (.int .i64)) (cq:P.cellsOf q=1)
  (h:DataW.trod enc P w base sp held fuel e ds=some (.agg [.lit (.string bs),.lit (.int .i64 a),.agg [.lit (.int .i64 b),.lit (.int .i64 c)]],p)):ds = [.string ⟨bs.toArray⟩,.int .i64 a,.int .i64 b,.int .i64 c]:=by
 obtain ⟨ys,n,_,hx,hl,hyl,hf⟩:=DataW.trod_struct he h
 rw [ce] at hl
 have hxs:=(Prod.mk.inj hx).1
 simp only [DataW.agg.injEq] at hxs
 match ys,hyl with
 | [y0,y1,y2],_=>
  simp only [List.map_cons,List.map_nil,List.cons.injEq,and_true] at hxs
  obtain ⟨h0,h1,h2⟩:=hxs
  have t0:=hf 0 f0 rfl
  have t1:=hf 1 f1 rfl
  have t2:=hf 2 f2 rfl
  match ds,hl with
  | [v0,v1,v2,v3],_=>
   simp [o0,c0] at t0
   simp [o1,c1] at t1
   simp [o2,c2] at t2
   obtain ⟨z0,e0,x0,_⟩:=DataW.trod_string u0 t0
   obtain ⟨z1,e1,x1,_⟩:=DataW.trod_int u1 t1
   obtain ⟨y20,y21⟩:=y2
   simp only [] at h2
   subst h2
   have e2:=Lib.cells_of_tab (zs:=[b,c]) u2 uq cq c2 t2
   simp only [List.cons.injEq,and_true,List.map_cons,List.map_nil] at e0 e1 e2
   obtain ⟨e2,e3⟩:=e2
   subst e0 e1 e2 e3
   rw [x0] at h0
   rw [x1] at h1
   simp only [DataW.lit.injEq,Lit.string.injEq,Lit.int.injEq,true_and] at h0 h1
   subst h1
   rw [h0]
theorem cut20 {α:Type} (l:List α) (h:l.length=20):l=(l.drop 0).take 4++((l.drop 4).take 4++((l.drop 8).take 4++((l.drop 12).take 4++(l.drop 16).take 4))):=by
 have k:∀ n,l.drop n=(l.drop n).take 4++l.drop (n+4):=fun n=>by
  have:=(List.take_append_drop 4 (l.drop n)).symm
  rw [List.drop_drop] at this
  exact this
 conv=>lhs;rw [← List.drop_zero (l:=l),k 0,k 4,k 8,k 12,k 16,List.drop_eq_nil_of_le (show l.length≤16+4 by omega),List.append_nil]
theorem kinds_cells {H:Type} {enc:TypeId×Value→H} {P:Program} {w:World} {base:Nat} {sp:Nat→Bool} {held:Bool} {fuel:Nat} {t e q:TypeId} {f0 f1 f2:Field} {cs:List Value} {p:List MemPlace}
  (ht:P.underlying t=some (.array 5 e)) (ct:P.cellsOf t=20)
  (he:P.underlying e=some (.struct #[f0,f1,f2])) (ce:P.cellsOf e=4) (o0:f0.offset=0) (o1:f1.offset=1) (o2:f2.offset=2) (c0:P.cellsOf f0.type=1) (c1:P.cellsOf f1.type=1) (c2:P.cellsOf f2.type=2)
  (u0:P.underlying f0.type=some .string) (u1:P.underlying f1.type=some (.int .i64)) (u2:P.underlying f2.type=some (.array 2 q)) (uq:P.underlying q=some (.int .i64)) (cq:P.cellsOf q=1)
  (h:DataW.trod enc P w base sp held fuel t cs=some (Rows.laid_carousel_model_kinds,p)):cs=kArr.toList:=by
 cases fuel with
 | zero=>simp [DataW.trod] at h
 | succ fuel=>
  simp only [DataW.trod,ht,ce,ct] at h
  split at h
  ·rename_i hl
   obtain ⟨xs,hm,hx⟩:=Option.map_eq_some_iff.1 h
   have hxs:=(Prod.mk.inj hx).1
   unfold Rows.laid_carousel_model_kinds at hxs
   simp only [DataW.agg.injEq] at hxs
   have hxl:xs.length=5:=by simpa using Lib.mapM_length hm
   have g:=fun i (hi:i < 5)=>Lib.mapM_at hm i i (by simp [hi])
   obtain ⟨b0,hb0,g0⟩:=g 0 (by omega)
   obtain ⟨b1,hb1,g1⟩:=g 1 (by omega)
   obtain ⟨b2,hb2,g2⟩:=g 2 (by omega)
   obtain ⟨b3,hb3,g3⟩:=g 3 (by omega)
   obtain ⟨b4,hb4,g4⟩:=g 4 (by omega)
   match xs,hxl with
   | [(d0,q0),(d1,q1),(d2,q2),(d3,q3),(d4,q4)],_=>
    simp only [List.map_cons,List.map_nil,List.cons.injEq,and_true] at hxs
    obtain ⟨rfl,rfl,rfl,rfl,rfl⟩:=hxs
    simp at hb0 hb1 hb2 hb3 hb4
    subst hb0 hb1 hb2 hb3 hb4
    have r0:=kind_cells he ce o0 o1 o2 c0 c1 c2 u0 u1 u2 uq cq g0
    have r1:=kind_cells he ce o0 o1 o2 c0 c1 c2 u0 u1 u2 uq cq g1
    have r2:=kind_cells he ce o0 o1 o2 c0 c1 c2 u0 u1 u2 uq cq g2
    have r3:=kind_cells he ce o0 o1 o2 c0 c1 c2 u0 u1 u2 uq cq g3
    have r4:=kind_cells he ce o0 o1 o2 c0 c1 c2 u0 u1 u2 uq cq g4
    rw [cut20 cs (by omega)]
    rw [show (List.drop 0 cs).take 4=_ from r0,show (List.drop 4 cs).take 4=_ from r1,show (List.drop 8 cs).take 4=_ from r2,show (List.drop 12 cs).take 4=_ from r3,show (List.drop 16 cs).take 4=_ from r4]
    rfl
  ·cases h
theorem kz_var {W : World} (h : W.var? Tryz.prog "carousel/model.kinds" = some kArr) : Kz W := by
 have hc:=World.var?_cell (g:=0) (by kernel_rfl) h
 intro i hi
 have e:∀ j,j < 20→kArr[j]?=kArr.toList[j]?:=fun j _=>by simp
 rcases (show i=0∨i=1∨i=2∨i=3∨i=4 by omega) with rfl|rfl|rfl|rfl|rfl
 ·exact ⟨(hc 0).trans rfl,(hc 1).trans rfl,(hc 2).trans rfl,(hc 3).trans rfl⟩
 ·exact ⟨(hc 4).trans rfl,(hc 5).trans rfl,(hc 6).trans rfl,(hc 7).trans rfl⟩
 ·exact ⟨(hc 8).trans rfl,(hc 9).trans rfl,(hc 10).trans rfl,(hc 11).trans rfl⟩
 ·exact ⟨(hc 12).trans rfl,(hc 13).trans rfl,(hc 14).trans rfl,(hc 15).trans rfl⟩
 ·exact ⟨(hc 16).trans rfl,(hc 17).trans rfl,(hc 18).trans rfl,(hc 19).trans rfl⟩
end Go.Proofs.YtihjnbbhpojnpaaGreatDoor.Wd
namespace Go.Proofs.YtihjnbbhpojnpaaGreatDoor.Wd
open Go.RowKit Fx
theorem pX_few (s:ByteArray):(pX s).2.length≤16∧(pX s).1.length≤9223372036854775807:=by
 by_cases h:pE s=0
 ·have hb:¬ 16384 < s.size:=fun hb=>by
   unfold pE at h
   rw [if_pos hb] at h
   exact absurd h (by decide)
  cases hp:parW (wordsB s) with
  | none=>
   unfold pE at h
   rw [if_neg hb,hp] at h
   exact absurd h (by decide)
  | some x=>
   have e:nE x.1 x.2=0:=by
    unfold pE at h
    rw [if_neg hb,hp] at h
    exact h
   have e2:pX s=x:=by unfold pX;rw [if_pos h,hp];rfl
   obtain ⟨hd,hl,hn⟩:=few16 e
   rw [e2]
   have:=(in_rng hd).1
   exact ⟨hn,by omega⟩
 ·unfold pX
  rw [if_neg h]
  exact ⟨by simp,by simp⟩
theorem mreads_walk (w:World) (hT:Hid (Tz w)) (hK:Hid (Kz w)) (hP:Hid (Pz w)) (s:ByteArray) (hs:s.size≤9223372036854775807):
  Calls Tryz.prog 3 #[.string s] w fun e w'=>e = .returned (.bool true)∧Below w.heap.size w w':=by
 haveI:Nonempty World:=⟨w⟩
 obtain ⟨sz,esz⟩:∃ n,s.size=n:=⟨_,rfl⟩
 have HSZ:Hid (s.size=sz):=esz
 go_enter Tryz.func3,Tryz.ntmps3
 go_wp2_with fail
 refine (awake12_any w hT hK hP).mono ?_
 rintro e w1 ⟨rfl,hB⟩
 have H1:Hid (Below w.heap.size w w1):=hB
 clear hB
 by_cases hz:1500 < sz
 ·have hz':(1500:Int) < (sz:Int):=by omega
  go_wp2
  go_ret
  exact ⟨rfl,H1.out⟩
 have hz':(sz:Int)≤1500:=by omega
 obtain ⟨⟨d,ls⟩,eX⟩:∃ X,pX s=X:=⟨_,rfl⟩
 obtain ⟨E,eE⟩:∃ E,pE s=E:=⟨_,rfl⟩
 have HF:Hid (ls.length≤16∧d.length≤9223372036854775807):=by
  have:=pX_few s
  rw [eX] at this
  exact this
 have c1:=Parse_any s w1 (Hid.up_kz hK H1.out)
 rw [eE,eX] at c1
 have c2:Hid (∀ W,Calls Tryz.prog 6 #[.string s] W fun e w'=>(∃ p n c p2 n2 c2,e = .returned (.tuple #[.agg #[.slice p n c,.slice p2 n2 c2],.int .i64 E])∧Nums .i64 w' (.slice p n c) d∧LyR 0 w' p2 n2 ls)∧Below W.heap.size W w'):=fun W=>by
  have:=rparse_any s W
  unfold PaR at this
  rw [eE,eX] at this
  exact this
 clear eX eE hz
 go_wp2_with fail
 clear esz
 refine c1.mono ?_
 rintro e w2 ⟨p,n,c,p2,n2,c2_,rfl,hO,hL,hB⟩
 obtain ⟨_,_,e3,hR⟩:=hL.rd
 cases e3
 have hN:=hO.nums
 have hn:=hN.lst
 obtain ⟨b2,eb2⟩:∃ b,w2.heap.size=b:=⟨_,rfl⟩
 obtain ⟨l2,el⟩:∃ l,ls.length=l:=⟨_,rfl⟩
 rw [el] at hR
 obtain ⟨K2,eK2⟩:∃ K,w2.alloc (.cells #[.slice p n c,.slice p2 ls.length c2_] 26)=K:=⟨_,rfl⟩
 have hB2:Below w2.heap.size w2 K2:=by rw [← eK2];exact up_alloc w2 _
 have H2:Hid (Below w.heap.size w K2∧Cel K2 b2 (.slice p n c) (.slice p2 l2 c2_)∧Nums .i64 K2 (.slice p n c) d∧LyR 0 K2 p2 l2 ls∧l2≤16):=⟨bstep H1.out (bstep hB hB2),by rw [← eK2,← eb2,← el];unfold Cel;simp [go_sem],hN.up hB2,hR.up hB2,by rw [← el];exact HF.out.1⟩
 rw [el] at eK2 ⊢
 (try rw [eb2])
 clear hO hL hB hR hN hn hB2 c1 H1
 go_wp2_with fail
 clear eK2 eb2
 refine (c2.out K2).mono ?_
 rintro e w3 ⟨⟨q,m_,d_,q2,m2,d2,rfl,hN,hR⟩,hB⟩
 obtain ⟨b3,eb3⟩:∃ b,w3.heap.size=b:=⟨_,rfl⟩
 obtain ⟨K3,eK3⟩:∃ K,w3.alloc (.cells #[.slice q m_ d_,.slice q2 m2 d2] 32)=K:=⟨_,rfl⟩
 have hB3:Below w3.heap.size w3 K3:=by rw [← eK3];exact up_alloc w3 _
 have H3:Hid (Below w.heap.size w K3∧Cel K3 b2 (.slice p n c) (.slice p2 l2 c2_)∧Nums .i64 K3 (.slice p n c) d∧LyR 0 K3 p2 l2 ls∧l2≤16∧Cel K3 b3 (.slice q m_ d_) (.slice q2 m2 d2)∧Nums .i64 K3 (.slice q m_ d_) d∧LyR 0 K3 q2 m2 ls):=⟨bstep H2.out.1 (bstep hB hB3),H2.out.2.1.up (bstep hB hB3),H2.out.2.2.1.up (bstep hB hB3),H2.out.2.2.2.1.up (bstep hB hB3),H2.out.2.2.2.2,by rw [← eK3,← eb3];unfold Cel;simp [go_sem],hN.up hB3,hR.up hB3⟩
 (try rw [eb3])
 clear hN hR hB hB3 c2 H2
 obtain ⟨a0,a1,_,_⟩:=H3.out.2.1
 obtain ⟨x0,x1,_,_⟩:=H3.out.2.2.2.2.2.1
 have ka:=cell_lt a0
 have kx:=cell_lt x0
 have nE1:(E==E)=true:=by simp
 have HU:Hid (∀ W,Below K3.heap.size K3 W→Hid (Kz W)∧Hid (Pz W)):=fun W hW=>⟨Hid.up_kz hK (bstep H3.out.1 hW),Hid.up_pz hP (bstep H3.out.1 hW)⟩
 have cn:Hid (∀ W,Below K3.heap.size K3 W→Calls Tryz.prog 8 #[.agg #[.slice p n c,.slice p2 l2 c2_]] W fun e w'=>∃ v,e = .returned v∧NetV (.slice p n c) l2 ls v w'∧Below W.heap.size W w'):=fun W hW=>by
  refine (net_any p p2 n c l2 c2_ ls (by have:=H3.out.2.2.2.2.1;omega) W (H3.out.2.2.2.1.up hW)).mono ?_
  rintro e' w8 ⟨p3,c3,rfl,h8,hB8⟩
  exact ⟨_,rfl,⟨p3,c3,_,rfl,h8⟩,hB8⟩
 have ca:Hid (∀ W v,Below K3.heap.size K3 W→NetV (.slice p n c) l2 ls v W→Calls Tryz.prog 7 #[v,.agg #[.slice q m_ d_,.slice q2 m2 d2]] W fun e w'=>e = .returned (.bool true)∧Below W.heap.size W w'):=fun W v hW hv=>by
  obtain ⟨p3,c3,B3,rfl,h8⟩:=hv
  obtain ⟨p4,c4,e4,hl5⟩:=h8.rd
  have el5:=H3.out.2.2.2.1.1
  rw [el5] at e4 hl5
  cases e4
  have:=alike_any p q p3 q2 n c m_ d_ l2 c3 m2 d2 d d ls ls HF.out.2 (by have:=H3.out.2.2.2.2.1;omega) W (H3.out.2.2.1.up hW) (H3.out.2.2.2.2.2.2.1.up hW) hl5 (H3.out.2.2.2.2.2.2.2.up hW)
  rw [decide_eq_true ⟨rfl,rfl⟩] at this
  exact this
 obtain ⟨T,eT⟩:∃ T,netT d ls=T:=⟨_,rfl⟩
 have ct:Hid (∀ W,Below K3.heap.size K3 W→Calls Tryz.prog 9 #[.agg #[.slice p n c,.slice p2 l2 c2_]] W fun e w'=>e = .returned (.string T)∧Below W.heap.size W w'):=fun W hW=>by
  have:=Text_any p p2 n c l2 c2_ d ls (by have:=H3.out.2.2.2.2.1;omega) W (HU.out W hW).1 (HU.out W hW).2 (H3.out.2.2.1.up hW) (H3.out.2.2.2.1.up hW)
  rw [eT] at this
  exact this
 have cr:Hid (∀ W,Below K3.heap.size K3 W→Calls Tryz.prog 10 #[.agg #[.slice q m_ d_,.slice q2 m2 d2]] W fun e w'=>e = .returned (.string T)∧Below W.heap.size W w'):=fun W hW=>by
  have:=rtext_any q q2 m_ d_ m2 d2 d ls (by have h1:=H3.out.2.2.2.2.2.2.2.1;have h2:=H3.out.2.2.2.1.1;have h3:=H3.out.2.2.2.2.1;omega) W (H3.out.2.2.2.2.2.2.1.up hW) (H3.out.2.2.2.2.2.2.2.up hW)
  rw [eT] at this
  exact this
 clear eT
 go_wp2_with fail
 clear eK3 eb3
 by_cases hE:E=0
 ·have nE2:(E != 0)=false:=by rw [hE];rfl
  clear hE
  refine rel [⟨5,27,NetV (.slice p n c) l2 ls⟩] 20 42 (by kernel_rfl) rfl rfl (by kernel_rfl) (by rfl) ?_ ?_
  ·intro e he v W W' h hb
   simp only [List.mem_cons,List.not_mem_nil,or_false] at he
   subst he
   exact NetV.up h hb
  apply Exists.intro
  refine ⟨fun x=>?_,?_,?_⟩
  ·simp only [List.take_succ_cons,List.take_zero]
   iterate 5
    refine relQuiet rfl rfl ?_
    apply Exists.intro
    refine ⟨fun F hF hf K hK=>?_,?_⟩
    ·have hFc:=hF.cell
     have hFf:=hF.frozen
     go_big_quiet_op
     first|exact hK|(apply Exists.intro;refine ⟨fun _=>?_,?_⟩;(· fail);exact hK)
    (try simp only [Act.put,List.setIfInBounds_toArray,List.set_cons_zero,List.set_cons_succ])
   refine relTold rfl rfl ?_ ?_
   ·intro F hF hf d
    have hFc:=hF.cell
    have hFf:=hF.frozen
    simp [yieldsR,yieldsUpon,go_sem]
    refine (cn.out (F d) (hF.below d)).mono ?_
    rintro e' w8 ⟨v8,rfl,hs8,hb8⟩
    exact ⟨_,rfl,hs8,hb8⟩
   (try simp only [Act.put,List.setIfInBounds_toArray,List.set_cons_zero,List.set_cons_succ])
   refine relQuiet rfl rfl ?_
   apply Exists.intro
   refine ⟨fun F hF hf K hK=>?_,?_⟩
   ·have hFc:=hF.cell
    have hFf:=hF.frozen
    go_big_quiet_op
    first|exact hK|(apply Exists.intro;refine ⟨fun _=>?_,?_⟩;(· fail);exact hK)
   (try simp only [Act.put,List.setIfInBounds_toArray,List.set_cons_zero,List.set_cons_succ])
   refine relQuiet rfl rfl ?_
   apply Exists.intro
   refine ⟨fun F hF hf K hK=>?_,?_⟩
   ·have hFc:=hF.cell
    have hFf:=hF.frozen
    have h8:∀ d,NetV (.slice p n c) l2 ls (x 5) (F d):=fun d=>hf _ List.mem_cons_self (by rfl) d
    go_big_quiet_op
    first|exact hK|(apply Exists.intro;refine ⟨fun _=>?_,?_⟩;(· exact hF.call (ca.out _ _ (hF.below _) (h8 _)));exact hK)
   iterate 6
    (try simp only [Act.put,List.setIfInBounds_toArray,List.set_cons_zero,List.set_cons_succ])
    refine relQuiet rfl rfl ?_
    apply Exists.intro
    refine ⟨fun F hF hf K hK=>?_,?_⟩
    ·have hFc:=hF.cell
     have hFf:=hF.frozen
     go_big_quiet_op
     first|exact hK|(apply Exists.intro;refine ⟨fun _=>?_,?_⟩;(· fail);exact hK)
   (try simp only [Act.put,List.setIfInBounds_toArray,List.set_cons_zero,List.set_cons_succ])
   refine relQuiet rfl rfl ?_
   apply Exists.intro
   refine ⟨fun F hF hf K hK=>?_,?_⟩
   ·have hFc:=hF.cell
    have hFf:=hF.frozen
    go_big_quiet_op
    first|exact hK|(apply Exists.intro;refine ⟨fun _=>?_,?_⟩;(· with_reducible exact hF.call (ct.out _ (hF.below _)));exact hK)
   (try simp only [Act.put,List.setIfInBounds_toArray,List.set_cons_zero,List.set_cons_succ])
   refine relQuiet rfl rfl ?_
   apply Exists.intro
   refine ⟨fun F hF hf K hK=>?_,?_⟩
   ·have hFc:=hF.cell
    have hFf:=hF.frozen
    go_big_quiet_op
    first|exact hK|(apply Exists.intro;refine ⟨fun _=>?_,?_⟩;(· fail);exact hK)
   (try simp only [Act.put,List.setIfInBounds_toArray,List.set_cons_zero,List.set_cons_succ])
   refine relQuiet rfl rfl ?_
   apply Exists.intro
   refine ⟨fun F hF hf K hK=>?_,?_⟩
   ·have hFc:=hF.cell
    have hFf:=hF.frozen
    go_big_quiet_op
    first|exact hK|(apply Exists.intro;refine ⟨fun _=>?_,?_⟩;(· with_reducible exact hF.call (cr.out _ (hF.below _)));exact hK)
   iterate 3
    (try simp only [Act.put,List.setIfInBounds_toArray,List.set_cons_zero,List.set_cons_succ])
    refine relQuiet rfl rfl ?_
    apply Exists.intro
    refine ⟨fun F hF hf K hK=>?_,?_⟩
    ·have hFc:=hF.cell
     have hFf:=hF.frozen
     go_big_quiet_op
     first|exact hK|(apply Exists.intro;refine ⟨fun _=>?_,?_⟩;(· fail);exact hK)
   (try simp only [Act.put,List.setIfInBounds_toArray,List.set_cons_zero,List.set_cons_succ])
   refine relEnd ?_
   exact rfl
  ·exact fun x=>rfl
  ·intro w9 xs hB9 hf
   simp only [List.drop_succ_cons,List.drop_zero]
   have H9:Hid (Below w.heap.size w w9):=bstep H3.out.1 hB9
   obtain ⟨z9,ez9⟩:∃ z,xs 5=z:=⟨_,rfl⟩
   simp only [ez9]
   clear hf hB9 cn ca ct cr a0 a1 x0 x1 ka kx ez9
   go_wp2
   go_ret
   exact ⟨rfl,H9.out⟩
 ·have nE2:(E != 0)=true:=by simpa using hE
  clear hE
  refine rel [⟨5,27,NetV (.slice p n c) l2 ls⟩] 20 42 (by kernel_rfl) rfl rfl (by kernel_rfl) (by rfl) ?_ ?_
  ·intro e he v W W' h hb
   simp only [List.mem_cons,List.not_mem_nil,or_false] at he
   subst he
   exact NetV.up h hb
  apply Exists.intro
  refine ⟨fun x=>?_,?_,?_⟩
  ·simp only [List.take_succ_cons,List.take_zero]
   iterate 5
    refine relQuiet rfl rfl ?_
    apply Exists.intro
    refine ⟨fun F hF hf K hK=>?_,?_⟩
    ·have hFc:=hF.cell
     have hFf:=hF.frozen
     go_big_quiet_op
     first|exact hK|(apply Exists.intro;refine ⟨fun _=>?_,?_⟩;(· fail);exact hK)
    (try simp only [Act.put,List.setIfInBounds_toArray,List.set_cons_zero,List.set_cons_succ])
   refine relTold rfl rfl ?_ ?_
   ·intro F hF hf d
    have hFc:=hF.cell
    have hFf:=hF.frozen
    simp [yieldsR,yieldsUpon,go_sem]
    refine (cn.out (F d) (hF.below d)).mono ?_
    rintro e' w8 ⟨v8,rfl,hs8,hb8⟩
    exact ⟨_,rfl,hs8,hb8⟩
   (try simp only [Act.put,List.setIfInBounds_toArray,List.set_cons_zero,List.set_cons_succ])
   refine relQuiet rfl rfl ?_
   apply Exists.intro
   refine ⟨fun F hF hf K hK=>?_,?_⟩
   ·have hFc:=hF.cell
    have hFf:=hF.frozen
    go_big_quiet_op
    first|exact hK|(apply Exists.intro;refine ⟨fun _=>?_,?_⟩;(· fail);exact hK)
   (try simp only [Act.put,List.setIfInBounds_toArray,List.set_cons_zero,List.set_cons_succ])
   refine relQuiet rfl rfl ?_
   apply Exists.intro
   refine ⟨fun F hF hf K hK=>?_,?_⟩
   ·have hFc:=hF.cell
    have hFf:=hF.frozen
    have h8:∀ d,NetV (.slice p n c) l2 ls (x 5) (F d):=fun d=>hf _ List.mem_cons_self (by rfl) d
    go_big_quiet_op
    first|exact hK|(apply Exists.intro;refine ⟨fun _=>?_,?_⟩;(· exact hF.call (ca.out _ _ (hF.below _) (h8 _)));exact hK)
   iterate 5
    (try simp only [Act.put,List.setIfInBounds_toArray,List.set_cons_zero,List.set_cons_succ])
    refine relQuiet rfl rfl ?_
    apply Exists.intro
    refine ⟨fun F hF hf K hK=>?_,?_⟩
    ·have hFc:=hF.cell
     have hFf:=hF.frozen
     go_big_quiet_op
     first|exact hK|(apply Exists.intro;refine ⟨fun _=>?_,?_⟩;(· fail);exact hK)
   iterate 5
    (try simp only [Act.put,List.setIfInBounds_toArray,List.set_cons_zero,List.set_cons_succ])
    refine relSkip rfl rfl ?_
   iterate 2
    (try simp only [Act.put,List.setIfInBounds_toArray,List.set_cons_zero,List.set_cons_succ])
    refine relQuiet rfl rfl ?_
    apply Exists.intro
    refine ⟨fun F hF hf K hK=>?_,?_⟩
    ·have hFc:=hF.cell
     have hFf:=hF.frozen
     go_big_quiet_op
     first|exact hK|(apply Exists.intro;refine ⟨fun _=>?_,?_⟩;(· fail);exact hK)
   (try simp only [Act.put,List.setIfInBounds_toArray,List.set_cons_zero,List.set_cons_succ])
   refine relEnd ?_
   exact rfl
  ·exact fun x=>rfl
  ·intro w9 xs hB9 hf
   simp only [List.drop_succ_cons,List.drop_zero]
   have H9:Hid (Below w.heap.size w w9):=bstep H3.out.1 hB9
   obtain ⟨z9,ez9⟩:∃ z,xs 5=z:=⟨_,rfl⟩
   simp only [ez9]
   clear hf hB9 cn ca ct cr a0 a1 x0 x1 ka kx ez9
   go_wp2
   go_ret
   exact ⟨rfl,H9.out⟩
end Go.Proofs.YtihjnbbhpojnpaaGreatDoor.Wd
