/- A row of tensors that a call hands back: how it lies in memory. · The code's give: what a gradient of a node gives for its two. · Losses on a tape that is swept back: its nodes may be, what their Ops give is known. · LossTurns' numbers: what comes out and what is wanted, changed for one another. · Tensors of one shape: a fold to it, a sum with noughts, a product with ones leave them as they are. · BackLines' tape: what it holds, what a sweep over it hands back. · LossNone's tape: what it holds, what two sweeps over it hand back. · The code's One. · The code's sweep: its object, add. -/
import Derived.Test.YtpdkkcnmgiihcaaGreatDoorN20
import Derived.Test.YtpdkkcnmgiihcaaGreatDoorN24
import Derived.Test.YtpdkkcnmgiihcaaGreatDoorN14
import Derived.Test.YtpdkkcnmgiihcaaGreatDoorN18
set_option linter.unusedVariables false
set_option linter.unusedSimpArgs false
set_option maxHeartbeats 16000000
set_option maxRecDepth 16000
namespace Go.Proofs.YtpdkkcnmgiihcaaGreatDoor.Wd
open Go.RowKit Fx
/-- A tensor's two cells. -/
def TwC (W:World) (B:Nat) (t:Ten) (u:List Value):Prop:=∃ s v,u = [s,v]∧OwnK .i64 3 W B s t.1∧OwnK .i64 33 W B v t.2
def TsC (W:World) (B:Nat) (ts:List Ten) (xs:List Value):Prop:=xs.length=ts.length*2∧∀ i t,ts[i]?=some t→TwC W B t ((xs.drop (i*2)).take 2)
/-- A row of tensors of one's own. -/
def OwnTs (W:World) (B:Nat) (v:Value) (ts:List Ten):Prop:=∃ xs,W.ownsRow B 31 2 v ts.length xs∧TsC W B ts xs
theorem TwC.only {S:List TypeId} {W W':World} {B:Nat} {t:Ten} {u:List Value} (h:TwC W B t u) (ho:Only S W W') (h1:3∉S) (h2:33∉S):TwC W' B t u:=by
 obtain ⟨s,v,e,hs,hv⟩:=h
 exact ⟨s,v,e,hs.only ho h1,hv.only ho h2⟩
theorem OwnTs.only {S:List TypeId} {W W':World} {B:Nat} {v:Value} {ts:List Ten} (h:OwnTs W B v ts) (ho:Only S W W') (h1:3∉S) (h2:33∉S) (h3:31∉S):OwnTs W' B v ts:=by
 obtain ⟨xs,hx,hl,hc⟩:=h
 exact ⟨xs,owns_only hx ho h3,hl,fun i t ht=>(hc i t ht).only ho h1 h2⟩
theorem OwnTs.up {W W':World} {B:Nat} {v:Value} {ts:List Ten} (h:OwnTs W B v ts) (hB:Below W.heap.size W W'):OwnTs W' B v ts:=h.only (S:=[]) (Only.of hB) (by simp) (by simp) (by simp)
theorem OwnTs.nil (W:World) (B:Nat):OwnTs W B (.slice none 0 0) []:=⟨[],World.ownsRow_nil _ _ _ _,rfl,fun i t h=>by simp at h⟩
theorem OwnTs.low {W:World} {B B':Nat} {v:Value} {ts:List Ten} (h:OwnTs W B v ts) (hB:B'≤B):OwnTs W B' v ts:=by
 obtain ⟨xs,hx,hl,hc⟩:=h
 refine ⟨xs,⟨hx.1,?_⟩,hl,fun i t ht=>?_⟩
 ·rcases hx.2 with hn|⟨g,cap,cur,hv,hb,rest⟩
  ·exact .inl hn
  ·exact .inr ⟨g,cap,cur,hv,Nat.le_trans hB hb,rest⟩
 ·obtain ⟨s,u,e,hs,hu⟩:=hc i t ht
  exact ⟨s,u,e,hs.low hB,hu.low hB⟩
/-- What a walk reads of it. -/
theorem OwnTs.form {W:World} {B:Nat} {v:Value} {ts:List Ten} (h:OwnTs W B v ts):∃ p c,v = .slice p ts.length c∧ts.length≤c:=by
 obtain ⟨xs,hx,_⟩:=h
 rcases hx.2 with ⟨rfl,h0⟩|⟨g,cap,cur,rfl,_,_,hc,_⟩
 ·exact ⟨none,0,by rw [h0],by omega⟩
 ·exact ⟨_,_,rfl,hc⟩
theorem OwnTs.at {W:World} {B n c:Nat} {p:Option Addr} {ts:List Ten} (h:OwnTs W B (.slice p n c) ts) (i:Nat) (t:Ten) (hi:ts[i]?=some t):
  ∃ q s u,p=some ⟨q,0,none⟩∧W.cell? ⟨q,i*2,none⟩=some s∧W.cell? ⟨q,i*2+1,none⟩=some u∧OwnK .i64 3 W B s t.1∧OwnK .i64 33 W B u t.2:=by
 obtain ⟨xs,hx,hl,hc⟩:=h
 obtain ⟨s,u,e,hs,hu⟩:=hc i t hi
 have hlt:i < ts.length:=(List.getElem?_eq_some_iff.1 hi).1
 have hget:∀ j v,((xs.drop (i*2)).take 2)[j]?=some v→xs[i*2+j]?=some v:=fun j v h=>by
  rw [List.getElem?_take] at h
  split at h
  ·rw [List.getElem?_drop] at h
   exact h
  ·cases h
 rw [e] at hget
 rcases hx.2 with ⟨_,h0⟩|⟨g,cap,cur,hv,hb,hg,rest⟩
 ·omega
 ·cases hv
  have hcell:∀ j v,xs[j]?=some v→W.cell? ⟨g,j,none⟩=some v:=fun j v h=>by
   have:=hx.cells (g:=g) rfl j v h
   rw [addr_plus,Nat.zero_add] at this
   exact this
  exact ⟨g,s,u,rfl,hcell _ _ (hget 0 _ rfl),hcell _ _ (hget 1 _ rfl),hs,hu⟩
theorem below_drew1 {w w1:World} {B:Nat} (h:Below B w w1):Below B w w1.drew:=h.trans ⟨rfl,rfl,rfl,Nat.le_refl _,fun _ _=>rfl⟩
theorem fin22 {w W:World} {B b b':Nat} {s t s' t' s0 t0 s1 t1:Value} {D X D' X':List Int} (h6:Cel W b s0 t0) (h7:Cel W b' s1 t1) (hne:b≠b') (hB:Below w.heap.size w W) (hb:w.heap.size≤b) (hb':w.heap.size≤b') (hbB:b < B) (hbB':b' < B)
  (hs:OwnK .i64 3 W B s D) (ht:OwnK .i64 33 W B t X) (hs':OwnK .i64 3 W B s' D') (ht':OwnK .i64 33 W B t' X'):
  (Cel (set2 (set2 W b s t) b' s' t') b s t∧Cel (set2 (set2 W b s t) b' s' t') b' s' t')∧TRes (set2 (set2 W b s t) b' s' t') w.heap.size (.agg #[s,t]) D X∧TRes (set2 (set2 W b s t) b' s' t') w.heap.size (.agg #[s',t']) D' X'∧Below w.heap.size w (set2 (set2 W b s t) b' s' t'):=by
 have e1:=Stay.set2 (g:=b) W s t
 have e2:=Stay.set2 (g:=b') (set2 W b s t) s' t'
 have q1:∀ {e:TypeId} {v:Value} {l:List Int},OwnK .i64 e W B v l→OwnK .i64 e (set2 (set2 W b s t) b' s' t') w.heap.size v l:=fun h=>((h.stay e1 (h.off hbB)).stay e2 ((h.stay e1 (h.off hbB)).off hbB')).low (by omega)
 exact ⟨⟨(h6.set s t).stay e2 hne,(h7.stay e1 (Ne.symm hne)).set s' t'⟩,⟨_,_,rfl,q1 hs,q1 ht⟩,⟨_,_,rfl,q1 hs',q1 ht'⟩,below_set2 (below_set2 hB b hb s t) b' hb' s' t'⟩
/-- What a return of two tensors leaves. -/
theorem fin22z {w W Z U:World} {B b b':Nat} {s t s' t' s0 t0 s1 t1:Value} {D X D' X':List Int} (hU:set2 (set2 W b s t) b' s' t'=U) (hZ:Below U.heap.size U Z) (h6:Cel W b s0 t0) (h7:Cel W b' s1 t1) (hne:b≠b') (hB:Below w.heap.size w W) (hb:w.heap.size≤b) (hb':w.heap.size≤b') (hbB:b < B) (hbB':b' < B)
  (hs:OwnK .i64 3 W B s D) (ht:OwnK .i64 33 W B t X) (hs':OwnK .i64 3 W B s' D') (ht':OwnK .i64 33 W B t' X'):
  Hid (TRes Z w.heap.size (.agg #[s,t]) D X∧TRes Z w.heap.size (.agg #[s',t']) D' X'∧Below w.heap.size w Z)∧(Z.cell? ⟨b,0,none⟩=some s∧Z.cell? ⟨b,1,none⟩=some t)∧Z.cell? ⟨b',0,none⟩=some s'∧Z.cell? ⟨b',1,none⟩=some t':=by
 obtain ⟨⟨c6,c7⟩,r6,r7,hBz⟩:=fin22 (w:=w) h6 h7 hne hB hb hb' hbB hbB' hs ht hs' ht'
 rw [hU] at c6 c7 r6 r7 hBz
 have d6:=c6.up hZ
 have d7:=c7.up hZ
 exact ⟨⟨r6.up hZ,r7.up hZ,bstep hBz hZ⟩,⟨d6.1,d6.2.1⟩,d7.1,d7.2.1⟩
/-- What giveA and giveB tell at an Op, if it is one. -/
def GvC (op:Int):Prop:=(2≤op∧op≤14→GvP 82 onA op)∧(twoP op→GvP 83 onB op)
theorem GvC.leaf:GvC 1:=⟨fun h=>absurd h (by omega),fun h=>absurd h (by decide)⟩
/-- Every node's own number is Go's; what its Op gives is known. -/
def NodesK (ns:List Nd):Prop:=∀ nd,nd∈ns→InR nd.k∧GvC nd.op
theorem NodesK.nil:NodesK []:=fun nd h=>by simp at h
theorem NodesK.leaf {ns:List Nd} {d x:List Int} (h:NodesK ns):NodesK (leafN ns d x):=by
 unfold leafN
 split
 ·intro nd hm
  rcases List.mem_append.1 hm with h1|h1
  ·exact h nd h1
  ·simp at h1
   subst h1
   refine ⟨?_,GvC.leaf⟩
   show InR 0
   unfold InR
   omega
 ·exact h
theorem NodesK.do {ns:List Nd} {op a b k:Int} (h:NodesK ns) (hk:InR k) (hc:GvC op):NodesK (doN ns op a b k):=by
 unfold doN
 split
 ·intro nd hm
  rcases List.mem_append.1 hm with h1|h1
  ·exact h nd h1
  ·simp at h1
   subst h1
   refine ⟨?_,hc⟩
   show InR (dK op k)
   unfold dK
   split
   ·exact hk
   ·unfold InR
    omega
 ·exact h
theorem onA_one (k:Int) (a b g:Ten):onA 1 k a b g=([],[]):=by simp [onA]
theorem onB_no {op:Int} (h:¬ twoP op) (k:Int) (a b g:Ten):onB op k a b g=([],[]):=by
 have h2:op≠2:=fun e=>h (.inl e)
 have h3:op≠3:=fun e=>h (.inr (.inl e))
 have h4:op≠4:=fun e=>h (.inr (.inr (.inl e)))
 have h6:op≠6:=fun e=>h (.inr (.inr (.inr (.inl e))))
 have h12:op≠12:=fun e=>h (.inr (.inr (.inr (.inr e))))
 simp [onB,h2,h3,h4,h6,h12]
/-- What Value tells of any number. -/
theorem cval_any (B tb:Nat) (ns:List Nd) (hG:NodesG ns) (i:Int) (w:World) (hT:TapC w B tb ns):
  Calls Tryz.prog 15 #[.pointer (some ⟨tb,0,none⟩),.int .i64 i] w fun e w'=>∃ v q,e = .returned (.tuple #[v,.bool q])∧TRes w' w.heap.size v (if 0≤i∧i < (ns.length:Int) then (ndN ns i).D else []) (if 0≤i∧i < (ns.length:Int) then (ndN ns i).X else [])∧Below w.heap.size w w':=by
 by_cases h:0≤i∧i < (ns.length:Int)
 ·obtain ⟨j,rfl⟩:∃ j:Nat,i=(j:Int):=⟨i.toNat,by omega⟩
  rw [if_pos h,if_pos h]
  refine (cvalue_any B tb ns hG j _ (ndN_get (by omega)) w hT).mono ?_
  rintro e w' ⟨v,rfl,h1,h2⟩
  exact ⟨v,true,rfl,h1,h2⟩
 ·rw [if_neg h,if_neg h]
  refine (cvno_any B tb ns i (by omega) w hT).mono ?_
  rintro e w' ⟨rfl,h2⟩
  exact ⟨_,false,rfl,TRes.none _ _,h2⟩
theorem cgive_any (B tb:Nat) (ns:List Nd) (hG:NodesG ns) (hV:NodesV ns) (hNK:NodesK ns) (i:Nat) (op a b k:Int) (D X:List Int) (hi:ns[i]?=some ⟨op,a,b,k,D,X⟩) (ps pt p p2:Option Addr) (ns_ cs nt ct n c n2 c2:Nat) (g:Ten) (hg:TenG g) (eg:g.1=D) (hc2:n2≤c2) (w:World) (hT:TapC w B tb ns) (hTz:Hid (Tz w)) (h1:Nums .i64 w (.slice p n c) g.1) (h2:Nums .i64 w (.slice p2 n2 c2) g.2):
  Calls Tryz.prog 52 #[.pointer (some ⟨tb,0,none⟩),.agg #[.int .i64 op,.int .i64 a,.int .i64 b,.int .i64 k,.slice ps ns_ cs,.slice pt nt ct],.agg #[.slice p n c,.slice p2 n2 c2]] w fun e w'=>∃ u v,e = .returned (.tuple #[u,v,.int .i64 0])∧TRes w' w.heap.size u (onA op k (aOf ns ⟨op,a,b,k,D,X⟩) (bOf ns ⟨op,a,b,k,D,X⟩) g).1 (onA op k (aOf ns ⟨op,a,b,k,D,X⟩) (bOf ns ⟨op,a,b,k,D,X⟩) g).2∧TRes w' w.heap.size v (onB op k (aOf ns ⟨op,a,b,k,D,X⟩) (bOf ns ⟨op,a,b,k,D,X⟩) g).1 (onB op k (aOf ns ⟨op,a,b,k,D,X⟩) (bOf ns ⟨op,a,b,k,D,X⟩) g).2∧Below w.heap.size w w':=by
 have hkk:InR k:=(hNK _ (nd_mem hi)).1
 have hgc:GvC op:=(hNK _ (nd_mem hi)).2
 obtain ⟨RA,eRA⟩:∃ R,onA op k (aOf ns ⟨op,a,b,k,D,X⟩) (bOf ns ⟨op,a,b,k,D,X⟩) g=R:=⟨_,rfl⟩
 obtain ⟨RB,eRB⟩:∃ R,onB op k (aOf ns ⟨op,a,b,k,D,X⟩) (bOf ns ⟨op,a,b,k,D,X⟩) g=R:=⟨_,rfl⟩
 have hil:i < ns.length:=(List.getElem?_eq_some_iff.1 hi).1
 obtain ⟨ta,tb_,cva,cvb,cga,cgb⟩:∃ ta tb_:Ten,
   Hid (∀ W,Below w.heap.size w W→Calls Tryz.prog 15 #[.pointer (some ⟨tb,0,none⟩),.int .i64 a] W fun e w'=>∃ v q,e = .returned (.tuple #[v,.bool q])∧TRes w' W.heap.size v ta.1 ta.2∧Below W.heap.size W w')
   ∧ Hid (∀ W,Below w.heap.size w W→Calls Tryz.prog 15 #[.pointer (some ⟨tb,0,none⟩),.int .i64 b] W fun e w'=>∃ v q,e = .returned (.tuple #[v,.bool q])∧TRes w' W.heap.size v tb_.1 tb_.2∧Below W.heap.size W w')
   ∧ Hid (∀ W p3 p4 p5 p6 n3 c3 n4 c4 n5 c5 n6 c6,Below w.heap.size w W→Nums .i64 W (.slice p3 n3 c3) ta.1→Nums .i64 W (.slice p4 n4 c4) ta.2→Nums .i64 W (.slice p5 n5 c5) tb_.1→Nums .i64 W (.slice p6 n6 c6) tb_.2→n4≤c4→n6≤c6→Calls Tryz.prog 82 #[.agg #[.int .i64 op,.int .i64 a,.int .i64 b,.int .i64 k,.slice ps ns_ cs,.slice pt nt ct],.agg #[.slice p3 n3 c3,.slice p4 n4 c4],.agg #[.slice p5 n5 c5,.slice p6 n6 c6],.agg #[.slice p n c,.slice p2 n2 c2]] W fun e w'=>∃ v',e = .returned (.tuple #[v',.int .i64 0])∧TRes w' W.heap.size v' RA.1 RA.2∧Below W.heap.size W w')
   ∧ Hid (∀ W p3 p4 p5 p6 n3 c3 n4 c4 n5 c5 n6 c6,Below w.heap.size w W→Nums .i64 W (.slice p3 n3 c3) ta.1→Nums .i64 W (.slice p4 n4 c4) ta.2→Nums .i64 W (.slice p5 n5 c5) tb_.1→Nums .i64 W (.slice p6 n6 c6) tb_.2→n4≤c4→n6≤c6→Calls Tryz.prog 83 #[.agg #[.int .i64 op,.int .i64 a,.int .i64 b,.int .i64 k,.slice ps ns_ cs,.slice pt nt ct],.agg #[.slice p3 n3 c3,.slice p4 n4 c4],.agg #[.slice p5 n5 c5,.slice p6 n6 c6],.agg #[.slice p n c,.slice p2 n2 c2]] W fun e w'=>∃ v',e = .returned (.tuple #[v',.int .i64 0])∧TRes w' W.heap.size v' RB.1 RB.2∧Below W.heap.size W w'):=by
  have cv:=fun (j:Int) W (hW:Below w.heap.size w W)=>cval_any B tb ns hG j W (hT.up hW)
  by_cases h1':op=1
  ·subst h1'
   rw [onA_one] at eRA
   rw [onB_no (by decide)] at eRB
   subst eRA eRB
   exact ⟨((if 0≤a∧a < (ns.length:Int) then (ndN ns a).D else []),(if 0≤a∧a < (ns.length:Int) then (ndN ns a).X else [])),((if 0≤b∧b < (ns.length:Int) then (ndN ns b).D else []),(if 0≤b∧b < (ns.length:Int) then (ndN ns b).X else [])),fun W hW=>cv a W hW,fun W hW=>cv b W hW,fun W p3 p4 p5 p6 n3 c3 n4 c4 n5 c5 n6 c6 hW _ _ _ _ _ _=>ga_none 1 (by decide) ps pt p3 p4 p5 p6 p p2 ns_ cs nt ct n3 c3 n4 c4 n5 c5 n6 c6 n c n2 c2 a b k W,fun W p3 p4 p5 p6 n3 c3 n4 c4 n5 c5 n6 c6 hW _ _ _ _ _ _=>gb_none 1 (by decide) ps pt p3 p4 p5 p6 p p2 ns_ cs nt ct n3 c3 n4 c4 n5 c5 n6 c6 n c n2 c2 a b k W⟩
  ·obtain ⟨ok,ho,ha,hb,hb'⟩:=OkP.of hG hV hi h1' hg eg
   simp only [] at ok ho ha hb hb'
   have hva:=cv a
   rw [if_pos ⟨ha.1,by omega⟩,if_pos ⟨ha.1,by omega⟩] at hva
   have hvb:=cv b
   have eb:(if 0≤b∧b < (ns.length:Int) then (ndN ns b).D else [])=(bOf ns ⟨op,a,b,k,D,X⟩).1∧(if 0≤b∧b < (ns.length:Int) then (ndN ns b).X else [])=(bOf ns ⟨op,a,b,k,D,X⟩).2:=by
    show _=dD ns op b∧_=dX ns op b
    unfold dD dX
    by_cases ht:twoP op
    ·have:=hb ht
     rw [if_pos ht,if_pos ht,if_pos ⟨this.1,by omega⟩,if_pos ⟨this.1,by omega⟩]
     exact ⟨rfl,rfl⟩
    ·have:=hb' ht
     rw [if_neg ht,if_neg ht,if_neg (by omega),if_neg (by omega)]
     exact ⟨rfl,rfl⟩
   rw [eb.1,eb.2] at hvb
   refine ⟨aOf ns ⟨op,a,b,k,D,X⟩,bOf ns ⟨op,a,b,k,D,X⟩,hva,hvb,fun W p3 p4 p5 p6 n3 c3 n4 c4 n5 c5 n6 c6 hW u1 u2 u3 u4 u5 u6=>?_,fun W p3 p4 p5 p6 n3 c3 n4 c4 n5 c5 n6 c6 hW u1 u2 u3 u4 u5 u6=>?_⟩
   ·rw [← eRA]
    exact hgc.1 ho ps pt p3 p4 p5 p6 p p2 ns_ cs nt ct n3 c3 n4 c4 n5 c5 n6 c6 n c n2 c2 a b k _ _ g hkk ok u5 u6 hc2 W (Hid.up_tz hTz hW) u1 u2 u3 u4 (h1.up hW) (h2.up hW)
   ·rw [← eRB]
    by_cases ht:twoP op
    ·exact hgc.2 ht ps pt p3 p4 p5 p6 p p2 ns_ cs nt ct n3 c3 n4 c4 n5 c5 n6 c6 n c n2 c2 a b k _ _ g hkk ok u5 u6 hc2 W (Hid.up_tz hTz hW) u1 u2 u3 u4 (h1.up hW) (h2.up hW)
    ·rw [onB_no ht]
     exact gb_none op ht ps pt p3 p4 p5 p6 p p2 ns_ cs nt ct n3 c3 n4 c4 n5 c5 n6 c6 n c n2 c2 a b k W
 rw [eRA,eRB]
 clear eRA eRB hkk hgc hil hG hV hNK hi hg eg hc2 hT hTz h1 h2
 go_enter Tryz.func52,Tryz.ntmps52
 go_wp2_with fail
 generalize hW0:World.alloc _ _=W0
 have HB0:=hidB (w:=w) hW0 (by go_grown)
 have XN:Hid (W0.heap[w.heap.size]?=some (.cells #[.int .i64 op,.int .i64 a,.int .i64 b,.int .i64 k,.slice ps ns_ cs,.slice pt nt ct] 44 (0,0))):=by
  show _=_
  rw [← hW0]
  exact ((up_alloc _ _).block _ (by simp;try omega)).trans (((up_alloc _ _).block _ (by simp;try omega)).trans (((up_alloc _ _).block _ (by simp;try omega)).trans (heap_alloc_new _ _)))
 have XG:Hid (Cel W0 (w.heap.size+1) (.slice p n c) (.slice p2 n2 c2)):=celW hW0 (by simp [go_sem])
 have X6:Hid (Cel W0 (w.heap.size+2) (.slice none 0 0) (.slice none 0 0)):=celW hW0 (by simp [go_sem])
 have X7:Hid (Cel W0 (w.heap.size+3) (.slice none 0 0) (.slice none 0 0)):=celW hW0 (by simp [go_sem])
 clear hW0
 refine (cva.out W0 HB0.out).mono ?_
 rintro e w1 ⟨v1,q1,rfl,⟨s1,t1,rfl,hs1,ht1⟩,hB1⟩
 obtain ⟨p3,n3,c3,rfl⟩:=hs1.form_
 obtain ⟨p4,n4,c4,rfl⟩:=ht1.form_
 have HB1:=hid2 (bstep HB0.out hB1) hB1
 have HN1:Hid (Nums .i64 w1 (.slice p3 n3 c3) ta.1∧Nums .i64 w1 (.slice p4 n4 c4) ta.2∧n4≤c4):=⟨hs1.nums,ht1.nums,ht1.cap⟩
 have HX1:w1.heap[w.heap.size]?=some (.cells #[.int .i64 op,.int .i64 a,.int .i64 b,.int .i64 k,.slice ps ns_ cs,.slice pt nt ct] 44 (0,0)):=(hB1.block _ (heap_lt XN.out)).trans XN.out
 obtain ⟨⟨k0,k1,k2,k3,k4,k5⟩,_⟩:=box6 HX1
 have kz:=heap_lt HX1
 clear hs1 ht1 hB1 cva
 go_wp2_with fail
 generalize hW2:World.alloc _ _=W2
 have B2:Below w1.heap.size w1 W2:=by rw [← hW2];exact up_alloc _ _
 have XA2:Hid (Cel W2 w1.heap.size (.slice p3 n3 c3) (.slice p4 n4 c4)):=celW hW2 (by simp [go_sem])
 have HB2:=hid2 (bstep HB1.out.1 B2) (bstep HB1.out.2 B2)
 have HN2:Hid (Nums .i64 W2 (.slice p3 n3 c3) ta.1∧Nums .i64 W2 (.slice p4 n4 c4) ta.2∧n4≤c4):=⟨HN1.out.1.up B2,HN1.out.2.1.up B2,HN1.out.2.2⟩
 clear hW2 B2 HB1 HN1 HX1 k0 k1 k2 k3 k4 k5 kz
 refine (cvb.out W2 HB2.out.1).mono ?_
 rintro e w3 ⟨v3,q3,rfl,⟨s3,t3,rfl,hs3,ht3⟩,hB3⟩
 obtain ⟨p5,n5,c5,rfl⟩:=hs3.form_
 obtain ⟨p6,n6,c6,rfl⟩:=ht3.form_
 have HB3:=hid2 (bstep HB2.out.1 hB3) (bstep HB2.out.2 hB3)
 have HN3:Hid ((Nums .i64 w3 (.slice p3 n3 c3) ta.1∧Nums .i64 w3 (.slice p4 n4 c4) ta.2∧n4≤c4)∧Nums .i64 w3 (.slice p5 n5 c5) tb_.1∧Nums .i64 w3 (.slice p6 n6 c6) tb_.2∧n6≤c6):=⟨⟨HN2.out.1.up hB3,HN2.out.2.1.up hB3,HN2.out.2.2⟩,hs3.nums,ht3.nums,ht3.cap⟩
 have HX3:w3.heap[w.heap.size]?=some (.cells #[.int .i64 op,.int .i64 a,.int .i64 b,.int .i64 k,.slice ps ns_ cs,.slice pt nt ct] 44 (0,0)):=(HB3.out.2.block _ (heap_lt XN.out)).trans XN.out
 have XA3:Hid (Cel w3 w1.heap.size (.slice p3 n3 c3) (.slice p4 n4 c4)):=XA2.out.up hB3
 obtain ⟨⟨k0,k1,k2,k3,k4,k5⟩,_⟩:=box6 HX3
 have kz:=heap_lt HX3
 obtain ⟨xa0,xa1,_,_⟩:=XA3.out
 have ka:=cell_lt xa0
 obtain ⟨xg0,xg1,_,_⟩:=XG.out.up HB3.out.2
 have kg:=cell_lt xg0
 clear hs3 ht3 hB3 cvb HB2 HN2 XA2
 go_wp2_with fail
 generalize hW4:World.alloc _ _=W4
 have B4:Below w3.heap.size w3 W4:=by rw [← hW4];exact up_alloc _ _
 have XB4:Hid (Cel W4 w3.heap.size (.slice p5 n5 c5) (.slice p6 n6 c6)):=celW hW4 (by simp [go_sem])
 have XA4:Hid (Cel W4 w1.heap.size (.slice p3 n3 c3) (.slice p4 n4 c4)):=XA3.out.up B4
 have HB4:=hid2 (bstep HB3.out.1 B4) (bstep HB3.out.2 B4)
 have HN4:Hid ((Nums .i64 W4 (.slice p3 n3 c3) ta.1∧Nums .i64 W4 (.slice p4 n4 c4) ta.2∧n4≤c4)∧Nums .i64 W4 (.slice p5 n5 c5) tb_.1∧Nums .i64 W4 (.slice p6 n6 c6) tb_.2∧n6≤c6):=⟨⟨HN3.out.1.1.up B4,HN3.out.1.2.1.up B4,HN3.out.1.2.2⟩,HN3.out.2.1.up B4,HN3.out.2.2.1.up B4,HN3.out.2.2.2⟩
 clear hW4 B4 HB3 HN3 HX3 k0 k1 k2 k3 k4 k5 kz xa0 xa1 ka xg0 xg1 kg XA3
 refine (cga.out W4 _ _ _ _ _ _ _ _ _ _ _ _ HB4.out.1 HN4.out.1.1 HN4.out.1.2.1 HN4.out.2.1 HN4.out.2.2.1 HN4.out.1.2.2 HN4.out.2.2.2).mono ?_
 rintro e w5 ⟨v5,rfl,⟨s5,t5,rfl,hs5,ht5⟩,hB5⟩
 obtain ⟨pa,na,ca,rfl⟩:=hs5.form_
 obtain ⟨pb,nb,cb,rfl⟩:=ht5.form_
 have HB5:=hid2 (bstep HB4.out.1 hB5) (bstep HB4.out.2 hB5)
 have HN5:Hid ((Nums .i64 w5 (.slice p3 n3 c3) ta.1∧Nums .i64 w5 (.slice p4 n4 c4) ta.2∧n4≤c4)∧Nums .i64 w5 (.slice p5 n5 c5) tb_.1∧Nums .i64 w5 (.slice p6 n6 c6) tb_.2∧n6≤c6):=⟨⟨HN4.out.1.1.up hB5,HN4.out.1.2.1.up hB5,HN4.out.1.2.2⟩,HN4.out.2.1.up hB5,HN4.out.2.2.1.up hB5,HN4.out.2.2.2⟩
 have HR5:Hid (OwnK .i64 3 w5 W0.heap.size (.slice pa na ca) RA.1∧OwnK .i64 33 w5 W0.heap.size (.slice pb nb cb) RA.2):=⟨hs5.low HB4.out.2.size,ht5.low HB4.out.2.size⟩
 have HX5:w5.heap[w.heap.size]?=some (.cells #[.int .i64 op,.int .i64 a,.int .i64 b,.int .i64 k,.slice ps ns_ cs,.slice pt nt ct] 44 (0,0)):=(HB5.out.2.block _ (heap_lt XN.out)).trans XN.out
 obtain ⟨⟨k0,k1,k2,k3,k4,k5⟩,_⟩:=box6 HX5
 have kz:=heap_lt HX5
 obtain ⟨xa0,xa1,_,_⟩:=XA4.out.up hB5
 have ka:=cell_lt xa0
 obtain ⟨xb0,xb1,_,_⟩:=XB4.out.up hB5
 have kb:=cell_lt xb0
 obtain ⟨xg0,xg1,_,_⟩:=XG.out.up HB5.out.2
 have kg:=cell_lt xg0
 clear hs5 ht5 hB5 cga HB4 HN4 XA4 XB4
 go_wp2_with fail
 generalize hW6:World.alloc _ _=W6
 have B6:Below w5.heap.size w5 W6:=by rw [← hW6];exact up_alloc _ _
 have XF6:Hid (Cel W6 w5.heap.size (.slice pa na ca) (.slice pb nb cb)):=celW hW6 (by simp [go_sem])
 have HB6:=hid2 (bstep HB5.out.1 B6) (bstep HB5.out.2 B6)
 have HN6:Hid ((Nums .i64 W6 (.slice p3 n3 c3) ta.1∧Nums .i64 W6 (.slice p4 n4 c4) ta.2∧n4≤c4)∧Nums .i64 W6 (.slice p5 n5 c5) tb_.1∧Nums .i64 W6 (.slice p6 n6 c6) tb_.2∧n6≤c6):=⟨⟨HN5.out.1.1.up B6,HN5.out.1.2.1.up B6,HN5.out.1.2.2⟩,HN5.out.2.1.up B6,HN5.out.2.2.1.up B6,HN5.out.2.2.2⟩
 have HR6:Hid (OwnK .i64 3 W6 W0.heap.size (.slice pa na ca) RA.1∧OwnK .i64 33 W6 W0.heap.size (.slice pb nb cb) RA.2):=⟨HR5.out.1.up B6,HR5.out.2.up B6⟩
 clear hW6 B6 HB5 HN5 HX5 k0 k1 k2 k3 k4 k5 kz xa0 xa1 ka xb0 xb1 kb xg0 xg1 kg HR5
 refine (cgb.out W6 _ _ _ _ _ _ _ _ _ _ _ _ HB6.out.1 HN6.out.1.1 HN6.out.1.2.1 HN6.out.2.1 HN6.out.2.2.1 HN6.out.1.2.2 HN6.out.2.2.2).mono ?_
 rintro e w7 ⟨v7,rfl,⟨s7,t7,rfl,hs7,ht7⟩,hB7⟩
 obtain ⟨pc,nc,cc,rfl⟩:=hs7.form_
 obtain ⟨pd,nd,cd,rfl⟩:=ht7.form_
 have HB7:=hid2 (bstep HB6.out.1 hB7) (bstep HB6.out.2 hB7)
 have HR7:Hid ((OwnK .i64 3 w7 W0.heap.size (.slice pa na ca) RA.1∧OwnK .i64 33 w7 W0.heap.size (.slice pb nb cb) RA.2)∧OwnK .i64 3 w7 W0.heap.size (.slice pc nc cc) RB.1∧OwnK .i64 33 w7 W0.heap.size (.slice pd nd cd) RB.2):=⟨⟨HR6.out.1.up hB7,HR6.out.2.up hB7⟩,hs7.low HB6.out.2.size,ht7.low HB6.out.2.size⟩
 have XF7:Hid (Cel w7 w5.heap.size (.slice pa na ca) (.slice pb nb cb)):=XF6.out.up hB7
 clear hs7 ht7 hB7 cgb HB6 HN6 XF6 HR6
 go_wp2_with fail
 generalize hW8:World.alloc _ _=W8
 have B8:Below w7.heap.size w7 W8:=by rw [← hW8];exact up_alloc _ _
 have XH8:Cel W8 w7.heap.size (.slice pc nc cc) (.slice pd nd cd):=(celW hW8 (by simp [go_sem])).out
 have XF8:=XF7.out.up B8
 have HB8:=hid2 (bstep HB7.out.1 B8) (bstep HB7.out.2 B8)
 have HR8:Hid ((OwnK .i64 3 W8 W0.heap.size (.slice pa na ca) RA.1∧OwnK .i64 33 W8 W0.heap.size (.slice pb nb cb) RA.2)∧OwnK .i64 3 W8 W0.heap.size (.slice pc nc cc) RB.1∧OwnK .i64 33 W8 W0.heap.size (.slice pd nd cd) RB.2):=⟨⟨HR7.out.1.1.up B8,HR7.out.1.2.up B8⟩,HR7.out.2.1.up B8,HR7.out.2.2.up B8⟩
 have h56:=cell_lt XF7.out.1
 have h5s:=HB7.out.2.size
 have hx7:=cell_lt X7.out.1
 have x6:=X6.out.up HB8.out.2
 have x7:=X7.out.up HB8.out.2
 have X68:Hid (Cel W8 (w.heap.size+2) (.slice none 0 0) (.slice none 0 0)):=x6
 have X78:Hid (Cel W8 (w.heap.size+3) (.slice none 0 0) (.slice none 0 0)):=x7
 obtain ⟨u0,u1,u2,u3⟩:=x6
 obtain ⟨v0,v1,v2,v3⟩:=x7
 obtain ⟨f0,f1,_,_⟩:=XF8
 obtain ⟨y0,y1,_,_⟩:=XH8
 have j0:=cell_lt u0
 have j1:=cell_lt v0
 have j2:=cell_lt f0
 have j3:=cell_lt y0
 clear hW8 B8 HB7 HR7 XF7
 go_region
 generalize hZ:World.drew _=Z
 obtain ⟨HZ,⟨e0,e1⟩,e2,e3⟩:=fin22z (w:=w) (B:=W0.heap.size) (Z:=Z) rfl (by rw [← hZ];exact below_drew1 (Below.refl _ _)) X68.out X78.out (by omega) HB8.out.1 (by omega) (by omega) (by omega) (by omega) HR8.out.1.1 HR8.out.1.2 HR8.out.2.1 HR8.out.2.2
 clear hZ
 go_wp2
 exact bodyPost_ret (v:=.tuple #[.agg #[.slice pa na ca,.slice pb nb cb],.agg #[.slice pc nc cc,.slice pd nd cd],.int .i64 0]) (by simp [results,Tryz.results52,go_sem,e0,e1,e2,e3]) rfl ⟨_,_,rfl,HZ.out⟩
theorem NodesV.ls {ns:List Nd} {s:Nd} (h:NodesV ns):NodesV (lsN ns s):=by
 unfold lsN
 split
 ·exact h.leaf
 ·exact h.do
theorem NodesV.lyF {ns sts:List Nd} (h:NodesV ns):∀ i,NodesV (lyF sts ns i).2.1
 | 0=>h
 | i+1=>by
  show NodesV (if (Wd.lyF sts ns i).1=0 then (lsE (Wd.lyF sts ns i).2.1 (stA sts i),lsN (Wd.lyF sts ns i).2.1 (stA sts i),lsR (Wd.lyF sts ns i).2.1 (stA sts i)) else Wd.lyF sts ns i).2.1
  split
  ·exact (NodesV.lyF h i).ls
  ·exact NodesV.lyF h i
theorem NodesV.lo {ns sts:List Nd} {e:Int} (h:NodesV ns):NodesV (loN e ns sts):=by
 unfold loN
 split
 ·unfold lyM
  split
  ·exact NodesV.lyF h _
  ·exact h
 ·exact h
theorem gv_loss {op:Int} (h:op=2∨op=3∨op=4∨op=9∨op=10∨op=11):GvC op:=by
 rcases h with rfl|rfl|rfl|rfl|rfl|rfl
 ·exact ⟨fun _=>ga2,fun _=>gb2⟩
 ·exact ⟨fun _=>ga3,fun _=>gb3⟩
 ·exact ⟨fun _=>ga4,fun _=>gb4⟩
 ·exact ⟨fun _=>ga9,fun h=>absurd h (by decide)⟩
 ·exact ⟨fun _=>ga10,fun h=>absurd h (by decide)⟩
 ·exact ⟨fun _=>ga11,fun h=>absurd h (by decide)⟩
/-- A step whose node may be swept over. -/
def StpK (s:Nd):Prop:=InR s.k∧(s.op≠1→GvC s.op)
theorem NodesK.ls {ns:List Nd} {s:Nd} (h:NodesK ns) (hs:StpK s):NodesK (lsN ns s):=by
 unfold lsN
 split
 ·exact h.leaf
 ·rename_i h1
  exact h.do hs.1 (hs.2 h1)
theorem NodesK.lyF {ns sts:List Nd} (h:NodesK ns) (hs:∀ i,StpK (stA sts i)):∀ i,NodesK (lyF sts ns i).2.1
 | 0=>h
 | i+1=>by
  show NodesK (if (Wd.lyF sts ns i).1=0 then (lsE (Wd.lyF sts ns i).2.1 (stA sts i),lsN (Wd.lyF sts ns i).2.1 (stA sts i),lsR (Wd.lyF sts ns i).2.1 (stA sts i)) else Wd.lyF sts ns i).2.1
  split
  ·exact (NodesK.lyF h hs i).ls (hs i)
  ·exact NodesK.lyF h hs i
theorem NodesK.lo {ns sts:List Nd} {e:Int} (h:NodesK ns) (hs:∀ i,StpK (stA sts i)):NodesK (loN e ns sts):=by
 unfold loN
 split
 ·unfold lyM
  split
  ·exact NodesK.lyF h hs _
  ·exact h
 ·exact h
theorem stpk_leaf (y:List Int):StpK (lfS y):=⟨by show InR 0;unfold InR;omega,fun h=>absurd rfl h⟩
theorem stpk_op {op a b k:Int} (h:op=2∨op=3∨op=4∨op=9∨op=10∨op=11) (hk:InR k):StpK (opS op a b k):=⟨hk,fun _=>gv_loss h⟩
theorem stpk_no:StpK ⟨1,0,0,0,[],[]⟩:=⟨by show InR 0;unfold InR;omega,fun h=>absurd rfl h⟩
theorem sqS_K {N o:Int} {y:List Int}:∀ i,StpK (stA (sqS N o y) i)
 | 0=>stpk_leaf y
 | 1=>stpk_op (by omega) (by unfold InR;omega)
 | 2=>stpk_op (by omega) (by unfold InR;omega)
 | 3=>stpk_op (by omega) (by unfold InR;omega)
 | _+4=>stpk_no
theorem szS_K {N o:Int} {y:List Int}:∀ i,StpK (stA (szS N o y) i)
 | 0=>stpk_leaf y
 | 1=>stpk_op (by omega) (by unfold InR;omega)
 | 2=>stpk_op (by omega) (by unfold InR;omega)
 | 3=>stpk_op (by omega) (by unfold InR;omega)
 | _+4=>stpk_no
theorem one_V {n:Nat} {x:List Int} (hx:RwP n x):NodesV (one1 n x):=by
 have:=NodesV.leaf (d:=[(n:Int)]) (x:=x) NodesV.nil
 rwa [(one_ok hx).2.2] at this
theorem one_K {n:Nat} {x:List Int} (hx:RwP n x):NodesK (one1 n x):=by
 have:=NodesK.leaf (d:=[(n:Int)]) (x:=x) NodesK.nil
 rwa [(one_ok hx).2.2] at this
theorem Fit.sqVK {ms:List Nd} {o:Int} {n:Nat} {x y:List Int} (h:Fit ms o n x y 4) (hV:NodesV ms) (hK:NodesK ms):NodesV (sq4 ms o n x y)∧NodesK (sq4 ms o n x y):=by
 have a:=hV.lo (e:=fitE ms o y) (sts:=sqS (ms.length:Int) o y)
 have b:=hK.lo (e:=fitE ms o y) (sqS_K (N:=(ms.length:Int)) (o:=o) (y:=y))
 rw [h.square.2.2] at a b
 exact ⟨a,b⟩
theorem Fit.szVK {ms:List Nd} {o:Int} {n:Nat} {x y:List Int} (h:Fit ms o n x y 4) (hV:NodesV ms) (hK:NodesK ms):NodesV (sz4 ms o n x y)∧NodesK (sz4 ms o n x y):=by
 have a:=hV.lo (e:=fitE ms o y) (sts:=szS (ms.length:Int) o y)
 have b:=hK.lo (e:=fitE ms o y) (szS_K (N:=(ms.length:Int)) (o:=o) (y:=y))
 rw [h.size.2.2] at a b
 exact ⟨a,b⟩
theorem range_get (l:List Int):(List.range l.length).map (fun i=>l.getD i 0)=l:=by
 refine List.ext_getElem (by simp) fun i h1 h2=>?_
 simp [List.getD_eq_getElem?_getD,h2]
/-- Number by number, where both are of one shape. -/
theorem each_same {op:Int→Int→Int} {d x y:List Int} (hx:isP d x) (hy:isP d y):eachE d x d y=0∧eachD d x d y=d∧eachV op d x d y=(List.range x.length).map fun i=>op (x.getD i 0) (y.getD i 0):=by
 obtain ⟨a,ga,rfl⟩:=good_itl hx.1
 obtain ⟨f,j⟩:=join_same a
 obtain ⟨p1,p2⟩:=join_fine ga ga f (by rw [j];exact ga)
 rw [j] at p1
 have hl:x.length=prodN a:=by have:=hx.2;rwa [ntl_itl] at this
 refine ⟨(if_pos ⟨hx,hy⟩).trans p2,(if_pos ⟨hx,hy⟩).trans p1,(if_pos ⟨⟨hx,hy⟩,p2⟩).trans ?_⟩
 rw [p1,ntl_itl,hl]
 refine List.map_congr_left fun i hi=>?_
 have hi':=List.mem_range.1 hi
 rw [from_same ga i hi']
theorem hold_inR {y:Int} (h:InR y):Fx.hold y=y:=Fx.hold_in h.1 h.2
theorem repl_at {n i:Nat} {v:Int} (h:i < n):(List.replicate n v).getD i 0=v:=by
 rw [List.getD_eq_getElem?_getD,List.getElem?_replicate,if_pos h]
 rfl
theorem add_nought {d x:List Int} (h:TnsG d x):add2 (d,List.replicate x.length 0) (d,x)=(d,x):=by
 have hz:isP d (List.replicate x.length 0):=⟨h.1.1,by rw [List.length_replicate];exact h.1.2⟩
 obtain ⟨_,e2,e3⟩:=each_same (op:=fun a b=>Fx.hold (a+b)) hz h.1
 refine Prod.ext e2 (e3.trans ?_)
 rw [List.length_replicate]
 refine Eq.trans (List.map_congr_left fun i hi=>?_) (range_get x)
 have hi':=List.mem_range.1 hi
 rw [repl_at hi',Int.zero_add]
 exact hold_inR (InR_get h.2.2 i)
theorem fold_own {t:Ten} (h:TenG t):fold2 t t.1=t:=by
 obtain ⟨d,x⟩:=t
 obtain ⟨a,ga,rfl⟩:=good_itl h.1.1
 obtain ⟨f,j⟩:=join_same a
 obtain ⟨p1,p2⟩:=join_fine ga ga f (by rw [j];exact ga)
 rw [j] at p1
 have hf:foldP (itl a) x (itl a):=⟨⟨h.1,h.1.1⟩,p2,p1⟩
 have hl:x.length=prodN a:=by have:=h.1.2;rwa [ntl_itl] at this
 refine Prod.ext (if_pos hf) ((if_pos hf).trans ?_)
 rw [ntl_itl,hl]
 have hc:∀ k,k≤prodN a→foldK (fun a b=>Fx.hold (a+b)) (fromN a a) (fun i=>x.getD i 0) (prodN a) k=foldK (fun a b=>Fx.hold (a+b)) (fun i=>i) (fun i=>x.getD i 0) (prodN a) k:=by
  intro k
  induction k with
  | zero=>intro _;rfl
  | succ k ih=>
   intro hk
   rw [foldK,foldK,ih (by omega),from_same ga k (by omega)]
 rw [hc _ (Nat.le_refl _),foldK_id _ _ _ (fun k hk=>by simp only [Int.zero_add];exact hold_inR (InR_get h.2.2 k)) _ (Nat.le_refl _)]
 refine Eq.trans (List.map_congr_left fun i hi=>?_) ((congrArg (fun n=>(List.range n).map fun i=>x.getD i 0) hl.symm).trans (range_get x))
 rw [if_pos (List.mem_range.1 hi)]
theorem prod_line (n:Nat):prodN (ntl [(n:Int)])=n:=by
 rw [show ntl [(n:Int)] = [n] from ntl_itl [n]]
 simp [prodN]
theorem isP_line {x:List Int} {n:Nat} (h:x.length=n) (h1:1≤n) (h2:n≤4096):isP [(n:Int)] x:=by
 have en:ntl [(n:Int)] = [n]:=ntl_itl [n]
 refine ⟨?_,h.trans (prod_line n).symm⟩
 rw [en]
 exact ⟨by simp,fun y hy=>by simp at hy;omega,by simp [prodN];omega⟩
theorem add_line {n:Nat} {x:List Int} (h:TnsG [(n:Int)] x) (e:x.length=n):add2 ([(n:Int)],List.replicate n 0) ([(n:Int)],x)=([(n:Int)],x):=by
 have:=add_nought h
 rwa [e] at this
def noV (n:Nat):List Int:=List.replicate n 0
theorem map_no {n:Nat} {f:Nat→Int} (h:∀ i,i < n→f i=0):(List.range n).map f=noV n:=by
 refine List.ext_getElem (by simp [noV]) fun i h1 h2=>?_
 have hi:i < n:=by simpa using h1
 simp [noV,h i hi]
theorem no_at (n i:Nat):(noV n).getD i 0=0:=by
 unfold noV
 rw [List.getD_eq_getElem?_getD,List.getElem?_replicate]
 split <;> rfl
theorem mul_no (a:Int):Fx.mulI a 0=0:=by
 rw [Fx.mulI_rnd,Int.mul_zero]
 rfl
theorem no_mul (a:Int):Fx.mulI 0 a=0:=by
 rw [Fx.mulI_rnd,Int.zero_mul]
 rfl
theorem dif_own {n:Nat} {x:List Int} (hx:RwP n x):dif x x=noV n:=by
 unfold dif mp2
 rw [hx.l]
 exact map_no fun i _=>by show Fx.hold (_ - _)=0;rw [Int.sub_self];rfl
theorem sq_own {n:Nat} {x:List Int} (hx:RwP n x):sqV x x=noV n:=by
 unfold sqV
 rw [dif_own hx]
 unfold mp2
 rw [show (noV n).length=n by simp [noV]]
 exact map_no fun i _=>by rw [no_at,mul_no]
theorem sz_own {n:Nat} {x:List Int} (hx:RwP n x):szV x x=noV n:=by
 unfold szV
 rw [dif_own hx]
 unfold noV
 rw [List.map_replicate]
 rfl
theorem mean_no {n:Nat} (h:1≤n):meanI (noV n)=0:=mean_alike (by unfold InR;omega) h
def nn5 (n:Nat) (x:List Int):List Nd:=[⟨1,-1,-1,0,[(n:Int)],x⟩,⟨1,-1,-1,0,[(n:Int)],x⟩,⟨3,0,1,0,[(n:Int)],noV n⟩,⟨4,2,2,0,[(n:Int)],noV n⟩,⟨10,3,-1,0,[],[0]⟩]
def nn9 (n:Nat) (x:List Int):List Nd:=[⟨1,-1,-1,0,[(n:Int)],x⟩,⟨1,-1,-1,0,[(n:Int)],x⟩,⟨3,0,1,0,[(n:Int)],noV n⟩,⟨4,2,2,0,[(n:Int)],noV n⟩,⟨10,3,-1,0,[],[0]⟩,⟨1,-1,-1,0,[(n:Int)],x⟩,⟨3,0,5,0,[(n:Int)],noV n⟩,⟨11,6,-1,4,[(n:Int)],noV n⟩,⟨10,7,-1,0,[],[0]⟩]
theorem nn5_eq {n:Nat} {x:List Int} (hx:RwP n x):sq4 [⟨1,-1,-1,0,[(n:Int)],x⟩] 0 n x x=nn5 n x:=by
 unfold sq4 sq3 df2 lf1
 rw [sq_own hx,dif_own hx,mean_no hx.h1]
 rfl
theorem nn9_eq {n:Nat} {x:List Int} (hx:RwP n x):sz4 (nn5 n x) 0 n x x=nn9 n x:=by
 unfold sz4 sz3 df2 lf1
 rw [sz_own hx,dif_own hx,mean_no hx.h1]
 rfl
def zT (n:Nat):Ten:=([(n:Int)],noV n)
def gT (n:Nat):Ten:=([(n:Int)],List.replicate n (Fx.hold (rqI 4294967296 (n:Int))))
theorem z_rw {n:Nat} (h1:1≤n) (h2:n≤4096):TnsG [(n:Int)] (noV n):=tnsg (isP_line (by simp [noV]) h1 h2) (RI_rep (by unfold InR;omega))
theorem g_rw {n:Nat} (h1:1≤n) (h2:n≤4096):TnsG [(n:Int)] (List.replicate n (Fx.hold (rqI 4294967296 (n:Int)))):=tnsg (isP_line (by simp) h1 h2) (RI_rep (Fx.hold_rng _))
theorem z_add {n:Nat} (h1:1≤n) (h2:n≤4096):add2 (zT n) (zT n)=zT n:=add_line (z_rw h1 h2) (by simp [noV])
theorem g_add {n:Nat} (h1:1≤n) (h2:n≤4096):add2 (zT n) (gT n)=gT n:=add_line (g_rw h1 h2) (by simp)
theorem z_mul {n:Nat} (h1:1≤n) (h2:n≤4096):mul2 (gT n) (zT n)=zT n:=by
 obtain ⟨_,e2,e3⟩:=each_same (op:=Fx.mulI) (g_rw h1 h2).1 (z_rw h1 h2).1
 refine Prod.ext e2 (e3.trans ?_)
 rw [List.length_replicate]
 exact map_no fun i _=>by rw [no_at,mul_no]
theorem z_fold {n:Nat} (h1:1≤n) (h2:n≤4096):fold2 (zT n) [(n:Int)]=zT n:=fold_own (t:=zT n) (z_rw h1 h2)
theorem z_scale {n:Nat} (h1:1≤n) (h2:n≤4096) (k:Int):scale2 (zT n) k=zT n:=by
 refine Prod.ext (if_pos (z_rw h1 h2).1) ((if_pos (z_rw h1 h2).1).trans ?_)
 show List.map _ (List.replicate n 0)=List.replicate n 0
 rw [List.map_replicate,no_mul]
theorem z_unb {n:Nat} (h1:1≤n) (h2:n≤4096):((unbD 4 [(n:Int)] (noV n) [(n:Int)] (List.replicate n (Fx.hold (rqI 4294967296 (n:Int)))),unbV 4 [(n:Int)] (noV n) [(n:Int)] (List.replicate n (Fx.hold (rqI 4294967296 (n:Int))))):Ten)=zT n:=by
 obtain ⟨_,e2,e3⟩:=unb_yes (k:=4) (d:=[(n:Int)]) (d':=[(n:Int)]) ⟨by omega,(z_rw h1 h2).1,(g_rw h1 h2).1⟩ rfl
 refine Prod.ext e2 (e3.trans ?_)
 rw [show (noV n).length=n by simp [noV]]
 exact map_no fun i _=>by
  rw [no_at,show Fx.slopeI 4 0=0 from rfl,mul_no]
theorem nn_w0 {n:Nat} {x:List Int} (hx:RwP n x):sw0 (nn9 n x) 4=([zT n,zT n,zT n,zT n,([],[4294967296])],[false,false,false,false,true]):=by
 have:sw0 (nn9 n x) 4=([([(n:Int)],List.replicate x.length 0),([(n:Int)],List.replicate x.length 0),([(n:Int)],List.replicate (noV n).length 0),([(n:Int)],List.replicate (noV n).length 0),([],[4294967296])],[false,false,false,false,true]):=rfl
 rw [this,hx.l,show (noV n).length=n by simp [noV]]
 rfl
theorem nn_w1 {n:Nat} {x:List Int} (hx:RwP n x):swStep (nn9 n x) 4 ([zT n,zT n,zT n,zT n,([],[4294967296])],[false,false,false,false,true])=([zT n,zT n,zT n,gT n,([],[4294967296])],[false,false,false,true,true]):=by
 unfold swStep
 rw [if_pos ⟨rfl,by show (10:Int)≠1;omega⟩,if_neg (by show ¬ (0:Int)≤-1;omega)]
 refine Prod.ext ?_ rfl
 show [_,_,_,add2 (zT n) ([(n:Int)],List.replicate (prodN (ntl [(n:Int)])) (Fx.hold (rqI 4294967296 ((noV n).length:Int)))),_]=_
 rw [prod_line,show (noV n).length=n by simp [noV]]
 show [_,_,_,add2 (zT n) (gT n),_]=_
 rw [g_add hx.h1 hx.h2]
theorem nn_w2 {n:Nat} {x:List Int} (hx:RwP n x):swStep (nn9 n x) 3 ([zT n,zT n,zT n,gT n,([],[4294967296])],[false,false,false,true,true])=([zT n,zT n,zT n,gT n,([],[4294967296])],[false,false,true,true,true]):=by
 unfold swStep
 rw [if_pos ⟨rfl,by show (4:Int)≠1;omega⟩,if_pos (by show (0:Int)≤2;omega)]
 refine Prod.ext ?_ rfl
 show [_,_,add2 (add2 (zT n) (fold2 (mul2 (gT n) (zT n)) [(n:Int)])) (fold2 (mul2 (gT n) (zT n)) [(n:Int)]),_,_]=_
 rw [z_mul hx.h1 hx.h2,z_fold hx.h1 hx.h2,z_add hx.h1 hx.h2,z_add hx.h1 hx.h2]
theorem nn_w3 {n:Nat} {x:List Int} (hx:RwP n x):swStep (nn9 n x) 2 ([zT n,zT n,zT n,gT n,([],[4294967296])],[false,false,true,true,true])=([zT n,zT n,zT n,gT n,([],[4294967296])],[true,true,true,true,true]):=by
 unfold swStep
 rw [if_pos ⟨rfl,by show (3:Int)≠1;omega⟩,if_pos (by show (0:Int)≤1;omega)]
 refine Prod.ext ?_ rfl
 show [add2 (zT n) (fold2 (zT n) [(n:Int)]),add2 (zT n) (fold2 (scale2 (zT n) (-4294967296)) [(n:Int)]),_,_,_]=_
 rw [z_scale hx.h1 hx.h2,z_fold hx.h1 hx.h2,z_add hx.h1 hx.h2]
theorem nn_sw4 {n:Nat} {x:List Int} (hx:RwP n x):swE (nn9 n x) 4=0∧swL (nn9 n x) 4 = [zT n,zT n,zT n,gT n,([],[4294967296])]:=by
 have e0:swE (nn9 n x) 4=0:=(if_pos ⟨by omega,by show (4:Int) < 9;omega⟩).trans (if_pos rfl)
 refine ⟨e0,?_⟩
 unfold swL
 rw [if_pos e0]
 show (swStep (nn9 n x) 0 (swStep (nn9 n x) 1 (swStep (nn9 n x) 2 (swStep (nn9 n x) 3 (swStep (nn9 n x) 4 (sw0 (nn9 n x) 4)))))).1=_
 rw [nn_w0 hx,nn_w1 hx,nn_w2 hx,nn_w3 hx]
 unfold swStep
 rw [if_neg (fun q=>q.2 rfl),if_neg (fun q=>q.2 rfl)]
theorem nn_v0 {n:Nat} {x:List Int} (hx:RwP n x):sw0 (nn9 n x) 8=([zT n,zT n,zT n,zT n,([],[0]),zT n,zT n,zT n,([],[4294967296])],[false,false,false,false,false,false,false,false,true]):=by
 have:sw0 (nn9 n x) 8=([([(n:Int)],List.replicate x.length 0),([(n:Int)],List.replicate x.length 0),([(n:Int)],List.replicate (noV n).length 0),([(n:Int)],List.replicate (noV n).length 0),([],[0]),([(n:Int)],List.replicate x.length 0),([(n:Int)],List.replicate (noV n).length 0),([(n:Int)],List.replicate (noV n).length 0),([],[4294967296])],[false,false,false,false,false,false,false,false,true]):=rfl
 rw [this,hx.l,show (noV n).length=n by simp [noV]]
 rfl
theorem nn_v1 {n:Nat} {x:List Int} (hx:RwP n x):swStep (nn9 n x) 8 ([zT n,zT n,zT n,zT n,([],[0]),zT n,zT n,zT n,([],[4294967296])],[false,false,false,false,false,false,false,false,true])=([zT n,zT n,zT n,zT n,([],[0]),zT n,zT n,gT n,([],[4294967296])],[false,false,false,false,false,false,false,true,true]):=by
 unfold swStep
 rw [if_pos ⟨rfl,by show (10:Int)≠1;omega⟩,if_neg (by show ¬ (0:Int)≤-1;omega)]
 refine Prod.ext ?_ rfl
 show [_,_,_,_,_,_,_,add2 (zT n) ([(n:Int)],List.replicate (prodN (ntl [(n:Int)])) (Fx.hold (rqI 4294967296 ((noV n).length:Int)))),_]=_
 rw [prod_line,show (noV n).length=n by simp [noV]]
 show [_,_,_,_,_,_,_,add2 (zT n) (gT n),_]=_
 rw [g_add hx.h1 hx.h2]
theorem nn_v2 {n:Nat} {x:List Int} (hx:RwP n x):swStep (nn9 n x) 7 ([zT n,zT n,zT n,zT n,([],[0]),zT n,zT n,gT n,([],[4294967296])],[false,false,false,false,false,false,false,true,true])=([zT n,zT n,zT n,zT n,([],[0]),zT n,zT n,gT n,([],[4294967296])],[false,false,false,false,false,false,true,true,true]):=by
 unfold swStep
 rw [if_pos ⟨rfl,by show (11:Int)≠1;omega⟩,if_neg (by show ¬ (0:Int)≤-1;omega)]
 refine Prod.ext ?_ rfl
 show [_,_,_,_,_,_,add2 (zT n) (unbD 4 [(n:Int)] (noV n) [(n:Int)] (List.replicate n (Fx.hold (rqI 4294967296 (n:Int)))),unbV 4 [(n:Int)] (noV n) [(n:Int)] (List.replicate n (Fx.hold (rqI 4294967296 (n:Int))))),_,_]=_
 rw [z_unb hx.h1 hx.h2,z_add hx.h1 hx.h2]
theorem nn_v3 {n:Nat} {x:List Int} (hx:RwP n x):swStep (nn9 n x) 6 ([zT n,zT n,zT n,zT n,([],[0]),zT n,zT n,gT n,([],[4294967296])],[false,false,false,false,false,false,true,true,true])=([zT n,zT n,zT n,zT n,([],[0]),zT n,zT n,gT n,([],[4294967296])],[true,false,false,false,false,true,true,true,true]):=by
 unfold swStep
 rw [if_pos ⟨rfl,by show (3:Int)≠1;omega⟩,if_pos (by show (0:Int)≤5;omega)]
 refine Prod.ext ?_ rfl
 show [add2 (zT n) (fold2 (zT n) [(n:Int)]),_,_,_,_,add2 (zT n) (fold2 (scale2 (zT n) (-4294967296)) [(n:Int)]),_,_,_]=_
 rw [z_scale hx.h1 hx.h2,z_fold hx.h1 hx.h2,z_add hx.h1 hx.h2]
theorem nn_sw8 {n:Nat} {x:List Int} (hx:RwP n x):swE (nn9 n x) 8=0∧swL (nn9 n x) 8 = [zT n,zT n,zT n,zT n,([],[0]),zT n,zT n,gT n,([],[4294967296])]:=by
 have e0:swE (nn9 n x) 8=0:=(if_pos ⟨by omega,by show (8:Int) < 9;omega⟩).trans (if_pos rfl)
 refine ⟨e0,?_⟩
 unfold swL
 rw [if_pos e0]
 show (swStep (nn9 n x) 0 (swStep (nn9 n x) 1 (swStep (nn9 n x) 2 (swStep (nn9 n x) 3 (swStep (nn9 n x) 4 (swStep (nn9 n x) 5 (swStep (nn9 n x) 6 (swStep (nn9 n x) 7 (swStep (nn9 n x) 8 (sw0 (nn9 n x) 8)))))))))).1=_
 rw [nn_v0 hx,nn_v1 hx,nn_v2 hx,nn_v3 hx]
 have s:∀ (i:Nat) (l:SwT),¬ (l.2.getD i false=true∧(ndN (nn9 n x) (i:Int)).op≠1)→swStep (nn9 n x) i l=l:=fun i l h=>if_neg h
 rw [s 5 _ (fun q=>q.2 rfl),s 4 _ (fun q=>by cases q.1),s 3 _ (fun q=>by cases q.1),s 2 _ (fun q=>by cases q.1),s 1 _ (fun q=>q.2 rfl),s 0 _ (fun q=>q.2 rfl)]
/-- A row of tensors in a block, cell by cell. -/
def TsK (W:World) (B:Nat) (l:List Ten) (xs:List Value):Prop:=xs.length=l.length*2∧∀ i t,l[i]?=some t→∃ s u,xs[i*2]?=some s∧xs[i*2+1]?=some u∧OwnK .i64 3 W B s t.1∧OwnK .i64 33 W B u t.2
theorem TsK.only {S:List TypeId} {W W':World} {B:Nat} {l:List Ten} {xs:List Value} (h:TsK W B l xs) (ho:Only S W W') (h1:3∉S) (h2:33∉S):TsK W' B l xs:=⟨h.1,fun i t hi=>by
 obtain ⟨s,u,a1,a2,a3,a4⟩:=h.2 i t hi
 exact ⟨s,u,a1,a2,a3.only ho h1,a4.only ho h2⟩⟩
theorem TsK.set {W:World} {B:Nat} {l:List Ten} {xs:List Value} (h:TsK W B l xs) {j:Nat} (hj:j < l.length) {s u:Value} {t:Ten} (hs:OwnK .i64 3 W B s t.1) (hu:OwnK .i64 33 W B u t.2):TsK W B (l.set j t) ((xs.set (j*2) s).set (j*2+1) u):=by
 have hl:=h.1
 refine ⟨by simp [h.1],fun i t' hi=>?_⟩
 rw [List.getElem?_set] at hi
 by_cases e:j=i
 ·subst e
  rw [if_pos rfl,if_pos hj] at hi
  cases hi
  refine ⟨s,u,?_,?_,hs,hu⟩
  ·rw [List.getElem?_set,if_neg (by omega),List.getElem?_set,if_pos rfl,if_pos (by omega)]
  ·rw [List.getElem?_set,if_pos rfl,if_pos (by rw [List.length_set];omega)]
 ·rw [if_neg e] at hi
  obtain ⟨s',u',a1,a2,a3,a4⟩:=h.2 i t' hi
  refine ⟨s',u',?_,?_,a3,a4⟩
  ·rw [List.getElem?_set,if_neg (by omega),List.getElem?_set,if_neg (by omega)]
   exact a1
  ·rw [List.getElem?_set,if_neg (by omega),List.getElem?_set,if_neg (by omega)]
   exact a2
/-- A sweep on its way: the tape, the gradients so far, which nodes were given anything. -/
structure SwC (W:World) (B sb tb gb vb N:Nat) (l:List Ten) (gv:List Bool):Prop where
 hs:W.heap[sb]?=some (.cells #[.pointer (some ⟨tb,0,none⟩),.slice (some ⟨gb,0,none⟩) N N,.slice (some ⟨vb,0,none⟩) N N] 83 (0,0))
 hg:∃ xs,W.heap[gb]?=some (.cells xs.toArray 31 (0,0))∧TsK W B l xs
 hv:W.heap[vb]?=some (.cells (gv.map Value.bool).toArray 4 (0,0))
 bs:B≤sb∧B≤gb∧B≤vb
 ll:l.length=N
 lv:gv.length=N
theorem SwC.up {W W':World} {B sb tb gb vb N:Nat} {l:List Ten} {gv:List Bool} (h:SwC W B sb tb gb vb N l gv) (hB:Below W.heap.size W W'):SwC W' B sb tb gb vb N l gv:=by
 obtain ⟨xs,hx,hk⟩:=h.hg
 exact ⟨(hB.block _ (heap_lt h.hs)).trans h.hs,⟨xs,(hB.block _ (heap_lt hx)).trans hx,hk.only (S:=[]) (Only.of hB) (by simp) (by simp)⟩,(hB.block _ (heap_lt h.hv)).trans h.hv,h.bs,h.ll,h.lv⟩
theorem box_cell {W:World} {b i:Nat} {cs:Array Value} {e:TypeId} {v:Value} (h:W.heap[b]?=some (.cells cs e (0,0))) (hv:cs[i]?=some v):W.cell? ⟨b,i,none⟩=some v∧W.frozen? ⟨b,i,none⟩=false:=by
 constructor
 ·unfold World.cell?
  simpa [h] using hv
 ·unfold World.frozen?
  simp [h]
theorem kind_ne {W:World} {b b':Nat} {cs cs':Array Value} {e e':TypeId} (h:W.heap[b]?=some (.cells cs e (0,0))) (h':W.heap[b']?=some (.cells cs' e' (0,0))) (hne:e≠e'):b≠b':=fun eq=>by
 subst eq
 rw [h] at h'
 cases h'
 exact hne rfl
theorem SwC.tape {W:World} {B sb tb gb vb N:Nat} {l:List Ten} {gv:List Bool} (h:SwC W B sb tb gb vb N l gv):W.cell? ⟨sb,0,none⟩=some (.pointer (some ⟨tb,0,none⟩))∧W.cell? ⟨sb,1,none⟩=some (.slice (some ⟨gb,0,none⟩) N N)∧W.cell? ⟨sb,2,none⟩=some (.slice (some ⟨vb,0,none⟩) N N):=
 ⟨(box_cell h.hs rfl).1,(box_cell h.hs rfl).1,(box_cell h.hs rfl).1⟩
theorem SwC.read {W:World} {B sb tb gb vb N:Nat} {l:List Ten} {gv:List Bool} (h:SwC W B sb tb gb vb N l gv) {i:Nat} {t:Ten} (hi:l[i]?=some t):
  ∃ s u,(W.cell? ⟨gb,i*2,none⟩=some s∧W.frozen? ⟨gb,i*2,none⟩=false)∧(W.cell? ⟨gb,i*2+1,none⟩=some u∧W.frozen? ⟨gb,i*2+1,none⟩=false)∧OwnK .i64 3 W B s t.1∧OwnK .i64 33 W B u t.2:=by
 obtain ⟨xs,hx,hk⟩:=h.hg
 obtain ⟨s,u,a1,a2,a3,a4⟩:=hk.2 i t hi
 exact ⟨s,u,box_cell hx (by simpa using a1),box_cell hx (by simpa using a2),a3,a4⟩
theorem SwC.flag {W:World} {B sb tb gb vb N:Nat} {l:List Ten} {gv:List Bool} (h:SwC W B sb tb gb vb N l gv) {i:Nat} (hi:i < N):W.cell? ⟨vb,i,none⟩=some (.bool (gv.getD i false))∧W.frozen? ⟨vb,i,none⟩=false:=by
 refine box_cell h.hv ?_
 have:=h.lv
 rw [List.getElem?_toArray,List.getElem?_map,List.getD_eq_getElem?_getD,List.getElem?_eq_getElem (by omega)]
 rfl
theorem SwC.set {W:World} {B sb tb gb vb N:Nat} {l:List Ten} {gv:List Bool} (h:SwC W B sb tb gb vb N l gv) {j:Nat} (hj:j < N) {s u:Value} {t:Ten} (hs:OwnK .i64 3 W B s t.1) (hu:OwnK .i64 33 W B u t.2):SwC ((W.setCell ⟨gb,j*2,none⟩ s).setCell ⟨gb,j*2+1,none⟩ u) B sb tb gb vb N (l.set j t) gv:=by
 obtain ⟨xs,hx,hk⟩:=h.hg
 have n1:sb≠gb:=kind_ne h.hs hx (by decide)
 have n2:vb≠gb:=kind_ne h.hv hx (by decide)
 have o1:=Only.set (S:=[31]) (o:=j*2) (x:=s) hx (by simp)
 have x1:=heap_setat (o:=j*2) (x:=s) hx
 have o2:=Only.set (S:=[31]) (o:=j*2+1) (x:=u) x1 (by simp)
 have x2:=heap_setat (o:=j*2+1) (x:=u) x1
 refine ⟨?_,⟨(xs.set (j*2) s).set (j*2+1) u,?_,(hk.set (by rw [h.ll];exact hj) hs hu).only (o1.trans o2) (by decide) (by decide)⟩,?_,h.bs,by rw [List.length_set];exact h.ll,h.lv⟩
 ·rw [heap_set _ _ _ _ _ n1,heap_set _ _ _ _ _ n1]
  exact h.hs
 ·rw [x2]
  simp
 ·rw [heap_set _ _ _ _ _ n2,heap_set _ _ _ _ _ n2]
  exact h.hv
theorem SwC.mark {W:World} {B sb tb gb vb N:Nat} {l:List Ten} {gv:List Bool} (h:SwC W B sb tb gb vb N l gv) (j:Nat):SwC (W.setCell ⟨vb,j,none⟩ (.bool true)) B sb tb gb vb N l (gv.set j true):=by
 obtain ⟨xs,hx,hk⟩:=h.hg
 have n1:sb≠vb:=kind_ne h.hs h.hv (by decide)
 have n2:gb≠vb:=kind_ne hx h.hv (by decide)
 have o1:=Only.set (S:=[4]) (o:=j) (x:=.bool true) h.hv (by simp)
 refine ⟨?_,⟨xs,?_,hk.only o1 (by decide) (by decide)⟩,?_,h.bs,h.ll,by rw [List.length_set];exact h.lv⟩
 ·rw [heap_set _ _ _ _ _ n1]
  exact h.hs
 ·rw [heap_set _ _ _ _ _ n2]
  exact hx
 ·rw [heap_setat h.hv]
  simp [List.map_set]
/-- All that stood stands but two blocks. -/
def But2 (x y:Nat) (W W':World):Prop:=W.heap.size≤W'.heap.size∧∀ k,k < W.heap.size→k≠x→k≠y→W'.heap[k]?=W.heap[k]?
theorem But2.of {x y:Nat} {W W':World} (h:Below W.heap.size W W'):But2 x y W W':=⟨h.size,fun k hk _ _=>h.block k hk⟩
theorem But2.set {x y:Nat} {W W':World} (h:But2 x y W W') {b o:Nat} {v:Value} (hb:b=x∨b=y):But2 x y W (W'.setCell ⟨b,o,none⟩ v):=⟨by simpa using h.1,fun k hk h1 h2=>by
 rw [heap_set _ _ _ _ _ (by rcases hb with rfl|rfl <;> assumption)]
 exact h.2 k hk h1 h2⟩
theorem But2.up {x y:Nat} {W W' W'':World} (h:But2 x y W W') (h2:Below W'.heap.size W' W''):But2 x y W W'':=⟨Nat.le_trans h.1 h2.size,fun k hk h3 h4=>(h2.block k (Nat.lt_of_lt_of_le hk h.1)).trans (h.2 k hk h3 h4)⟩
theorem But2.only {x y:Nat} {W W':World} (h:But2 x y W W') {cs cs':Array Value} {e e':TypeId} (hx:W.heap[x]?=some (.cells cs e (0,0))) (hy:W.heap[y]?=some (.cells cs' e' (0,0))):Only [e,e'] W W':=⟨h.1,fun k hk hp=>h.2 k hk (fun ek=>by subst ek;exact hp _ _ _ hx (by simp)) (fun ek=>by subst ek;exact hp _ _ _ hy (by simp))⟩
theorem cadd_no (n:Int) (hn:n < 0) (sb:Nat) (p1 q1:Option Addr) (n1 c1 m1 e1:Nat) (w:World):
  Calls Tryz.prog 53 #[.pointer (some ⟨sb,0,none⟩),.int .i64 n,.agg #[.slice p1 n1 c1,.slice q1 m1 e1]] w fun e w'=>e = .returned (.int .i64 0)∧Below w.heap.size w w':=by
 have d1:decide (n < 0)=true:=decide_eq_true hn
 clear hn
 go_enter Tryz.func53,Tryz.ntmps53
 go_wp2
 exact bodyPost_ret (v:=.int .i64 0) (by simp [results,Tryz.results53,go_sem]) rfl ⟨rfl,up_alloc _ _⟩
theorem cadd_any (B sb tb gb vb N:Nat) (l:List Ten) (gv:List Bool) (j:Nat) (hj:j < N) (t p:Ten) (ht:l[j]?=some t) (gt:TenG t) (gp:TenG p) (ep:p.1=t.1) (p1 q1:Option Addr) (n1 c1 m1 e1:Nat) (w:World) (hS:SwC w B sb tb gb vb N l gv) (hB:B≤w.heap.size) (h1:Nums .i64 w (.slice p1 n1 c1) p.1) (h2:Nums .i64 w (.slice q1 m1 e1) p.2):
  Calls Tryz.prog 53 #[.pointer (some ⟨sb,0,none⟩),.int .i64 (j:Int),.agg #[.slice p1 n1 c1,.slice q1 m1 e1]] w fun e w'=>e = .returned (.int .i64 0)∧SwC w' B sb tb gb vb N (l.set j (add2 t p)) (gv.set j true)∧Below B w w'∧But2 gb vb w w':=by
 obtain ⟨A,eA⟩:∃ A,add2 t p=A:=⟨_,rfl⟩
 have hE:eachE t.1 t.2 p.1 p.2=0:=by
  obtain ⟨a,ga,ea⟩:=good_itl gt.1.1
  obtain ⟨f,jj⟩:=join_same a
  obtain ⟨k1,k2⟩:=join_fine ga ga f (by rw [jj];exact ga)
  exact (if_pos ⟨gt.1,gp.1⟩).trans (by rw [ep,ea];exact k2)
 obtain ⟨s,u,⟨c0,f0⟩,⟨d0,g0⟩,hs,hu⟩:=hS.read ht
 obtain ⟨p3,n3,c3,rfl⟩:=hs.form_
 obtain ⟨q3,m3,e3,rfl⟩:=hu.form_
 have cA:Hid (∀ W,Below w.heap.size w W→Calls Tryz.prog 84 #[.agg #[.slice p3 n3 c3,.slice q3 m3 e3],.agg #[.slice p1 n1 c1,.slice q1 m1 e1]] W fun e w'=>∃ v',e = .returned (.tuple #[v',.int .i64 0])∧TRes w' W.heap.size v' A.1 A.2∧Below W.heap.size W w'):=fun W hW=>by
  have:=tadd_any p3 q3 p1 q1 n3 c3 m3 e3 n1 c1 m1 e1 t.1 t.2 p.1 p.2 gt.2.1 gt.2.2 gp.2.1 gp.2.2 W (hs.nums.up hW) (hu.nums.up hW) (h1.up hW) (h2.up hW)
  rw [hE] at this
  rw [← eA]
  exact this
 rw [eA]
 obtain ⟨b0,b1,b2⟩:=hS.tape
 have HS:Hid (SwC w B sb tb gb vb N l gv∧B≤w.heap.size):=⟨hS,hB⟩
 have HC:Hid ((w.cell? ⟨sb,1,none⟩=some (.slice (some ⟨gb,0,none⟩) N N))∧w.cell? ⟨gb,j*2,none⟩=some (.slice p3 n3 c3)∧w.cell? ⟨gb,j*2+1,none⟩=some (.slice q3 m3 e3)):=⟨b1,c0,d0⟩
 have hj':(j:Int) < (N:Int):=by omega
 have d1:decide ((j:Int) < 0)=false:=decide_eq_false (by omega)
 haveI:Nonempty World:=⟨w⟩
 clear eA hE hs hu h1 h2 gt gp ep ht hS hB b0 b1 b2 c0 d0 f0 g0
 go_enter Tryz.func53,Tryz.ntmps53
 go_wp2_with fail
 generalize hW0:World.alloc _ _=W0
 have HB0:=hidB (w:=w) hW0 (by go_grown)
 have XP:Hid (Cel W0 w.heap.size (.slice p1 n1 c1) (.slice q1 m1 e1)):=celW hW0 (by simp [go_sem])
 clear hW0
 have b1:=cell_low HC.out.1 HB0.out
 have c0:=cell_low HC.out.2.1 HB0.out
 have c1_:=cell_low HC.out.2.2 HB0.out
 obtain ⟨x0,x1,_,_⟩:=XP.out
 have kb:=cell_lt b1
 have kc:=cell_lt c0
 have kx:=cell_lt x0
 refine relE [⟨8,20,TupP W0.heap.size A.1 A.2 0⟩,⟨9,11,TupP W0.heap.size A.1 A.2 0⟩,⟨10,21,OwnT W0.heap.size A.1 A.2⟩,⟨12,7,NewC W0.heap.size⟩] 13 39 (by kernel_rfl) rfl rfl 11 _ rfl (by decide) rfl (by kernel_rfl) (by kernel_rfl) (fun _ _ _ _ h=>h) (by rfl) ?_ ?_
 ·intro e he v W W' h hb
  simp only [List.mem_cons,List.not_mem_nil,or_false] at he
  rcases he with rfl|rfl|rfl|rfl
  ·exact TupP.up h hb
  ·exact TupP.up h hb
  ·exact OwnT.up h hb
  ·exact NewC.up h hb
 apply Exists.intro
 refine ⟨?yl1,?wk1,?pk1,?rest1⟩
 case wk1=>
  intro x
  simp only [List.take_succ_cons,List.take_zero]
  iterate 8
   refine relQuiet rfl rfl ?_
   apply Exists.intro
   refine ⟨fun F hF hf K hK=>?_,?_⟩
   ·have hFc:=hF.cell
    have hFf:=hF.frozen
    go_big_quiet_op
    first|exact hK|(apply Exists.intro;refine ⟨fun _=>?_,?_⟩;(· fail);exact hK)
   (try simp only [Act.put,List.setIfInBounds_toArray,List.set_cons_zero,List.set_cons_succ])
  refine relTold rfl rfl ?_ ?_
  ·intro F hF hf d
   have hFc:=hF.cell
   have hFf:=hF.frozen
   simp [yieldsR,yieldsUpon,go_sem]
   refine (cA.out (F d) (bstep HB0.out (hF.below d))).mono ?_
   rintro e' w8 ⟨v8,rfl,h8,hb8⟩
   exact ⟨_,rfl,⟨v8,rfl,(h8.low (hF.below d).size).own⟩,hb8⟩
  (try simp only [Act.put,List.setIfInBounds_toArray,List.set_cons_zero,List.set_cons_succ])
  refine relTold rfl rfl ?_ ?_
  ·intro F hF hf d
   have hFc:=hF.cell
   have hFf:=hF.frozen
   have h9:=hf _ List.mem_cons_self (by rfl) d
   simp [yieldsR,yieldsUpon,go_sem]
   exact ⟨h9,Below.refl _ _⟩
  (try simp only [Act.put,List.setIfInBounds_toArray,List.set_cons_zero,List.set_cons_succ])
  refine relTold rfl rfl ?_ ?_
  ·intro F hF hf d
   have hFc:=hF.cell
   have hFf:=hF.frozen
   have h9:=hf _ (List.mem_cons_of_mem _ List.mem_cons_self) (by rfl) d
   obtain ⟨u9,e9,o9⟩:=h9
   simp only [] at e9
   simp [yieldsR,yieldsUpon,go_sem,e9]
   exact ⟨o9,Below.refl _ _⟩
  (try simp only [Act.put,List.setIfInBounds_toArray,List.set_cons_zero,List.set_cons_succ])
  refine relQuiet rfl rfl ?_
  apply Exists.intro
  refine ⟨fun F hF hf K hK=>?_,?_⟩
  ·have hFc:=hF.cell
   have hFf:=hF.frozen
   have h9:=hf _ (List.mem_cons_of_mem _ List.mem_cons_self) (by rfl)
   obtain ⟨u9,e9,_⟩:=h9 W0
   simp only [] at e9
   go_big_quiet_op
   first|exact hK|(apply Exists.intro;refine ⟨fun _=>?_,?_⟩;(· fail);exact hK)
  (try simp only [Act.put,List.setIfInBounds_toArray,List.set_cons_zero,List.set_cons_succ])
  refine relTold rfl rfl ?_ ?_
  ·intro F hF hf d
   have hFc:=hF.cell
   have hFf:=hF.frozen
   simp [yieldsR,yieldsUpon,go_sem]
   exact ⟨⟨(F d).heap.size,rfl,by show ((F d).heap.push _)[(F d).heap.size]?=_;simp,(hF.below d).size⟩,up_alloc _ _⟩
  (try simp only [Act.put,List.setIfInBounds_toArray,List.set_cons_zero,List.set_cons_succ])
  refine relEnd ?_
  exact rfl
 case pk1=>
  intro x
  simp only [putsK,List.foldl_cons,List.foldl_nil,Act.put,List.setIfInBounds_toArray,List.set_cons_zero,List.set_cons_succ]
 case yl1=>
  intro x hx
  obtain ⟨W9,u9,e9,_⟩:=hx _ (List.mem_cons_of_mem _ List.mem_cons_self) (by rfl)
  simp only [] at e9
  refine ⟨.int .i64 0,fun t ht=>?_,.inl ⟨by rfl,fun w=>?_⟩⟩
  ·cases ht
   rfl
  ·simp [execOp,Act.eval,e9,go_sem]
 intro z1 xs hBz1 hf
 simp only [List.drop_succ_cons,List.drop_zero]
 obtain ⟨pa,na,ca,pb,nb,cb,ev,o1,o2⟩:=hf _ (List.mem_cons_of_mem _ (List.mem_cons_of_mem _ List.mem_cons_self))
 obtain ⟨g6,eb,hb1,hb2⟩:=hf _ (List.mem_cons_of_mem _ (List.mem_cons_of_mem _ (List.mem_cons_of_mem _ List.mem_cons_self)))
 simp only [] at ev eb
 obtain ⟨x8,e8⟩:∃ q,xs 8=q:=⟨_,rfl⟩
 obtain ⟨x9,e9⟩:∃ q,xs 9=q:=⟨_,rfl⟩
 simp only [ev,eb,e8,e9]
 have f1:=o1.off_type hb1 (by decide)
 have f2:=o2.off_type hb1 (by decide)
 have hS1:Below W0.heap.size W0 (set2 z1 g6 (.slice pa na ca) (.slice pb nb cb)):=below_set2 hBz1 g6 hb2 _ _
 have hSw:SwC (set2 z1 g6 (.slice pa na ca) (.slice pb nb cb)) B sb tb gb vb N l gv:=(HS.out.1.up HB0.out).up hS1
 have q1:OwnK .i64 3 (set2 z1 g6 (.slice pa na ca) (.slice pb nb cb)) B (.slice pa na ca) A.1:=(o1.stay (Stay.set2 _ _ _) f1).low (by have:=HB0.out.size;have:=HS.out.2;omega)
 have q2:OwnK .i64 33 (set2 z1 g6 (.slice pa na ca) (.slice pb nb cb)) B (.slice pb nb cb) A.2:=(o2.stay (Stay.set2 _ _ _) f2).low (by have:=HB0.out.size;have:=HS.out.2;omega)
 have hBw:Below w.heap.size w (set2 z1 g6 (.slice pa na ca) (.slice pb nb cb)):=bstep HB0.out hS1
 have hC6:Cel (set2 z1 g6 (.slice pa na ca) (.slice pb nb cb)) g6 (.slice pa na ca) (.slice pb nb cb):=(new_cel hb1).set _ _
 have HF:Hid ((SwC (set2 z1 g6 (.slice pa na ca) (.slice pb nb cb)) B sb tb gb vb N l gv∧OwnK .i64 3 (set2 z1 g6 (.slice pa na ca) (.slice pb nb cb)) B (.slice pa na ca) A.1∧OwnK .i64 33 (set2 z1 g6 (.slice pa na ca) (.slice pb nb cb)) B (.slice pb nb cb) A.2)∧Below w.heap.size w (set2 z1 g6 (.slice pa na ca) (.slice pb nb cb))∧Cel (set2 z1 g6 (.slice pa na ca) (.slice pb nb cb)) g6 (.slice pa na ca) (.slice pb nb cb)):=⟨⟨hSw,q1,q2⟩,hBw,hC6⟩
 obtain ⟨y0,y1,y2,y3⟩:=new_cel hb1
 have cz:=cell_lt y0
 clear hf ev eb e8 e9 f1 f2 o1 o2 cA b1 c0 c1_ x0 x1 kb kc kx hS1 hSw q1 q2 hBw hC6 hBz1 hb1 hb2 HC XP HB0
 go_wp2_with fail
 obtain ⟨W1,eW1⟩:∃ W1,(set2 z1 g6 (.slice pa na ca) (.slice pb nb cb))=W1:=⟨_,rfl⟩
 rw [show ((z1.setCell ⟨g6,0,none⟩ (.slice pa na ca)).setCell ⟨g6,1,none⟩ (.slice pb nb cb))=W1 from eW1]
 rw [eW1] at HF
 clear eW1 y0 y1 y2 y3 cz
 obtain ⟨y0,y1,_,_⟩:=HF.out.2.2
 have cz:=cell_lt y0
 obtain ⟨b0,b1,b2⟩:=HF.out.1.1.tape
 have kb:=cell_lt b1
 obtain ⟨xs9,hx9,hk9⟩:=HF.out.1.1.hg
 have hl9:=hk9.1
 have hN9:=HF.out.1.1.ll
 obtain ⟨va,i0,i1⟩:∃ va,W1.cell? ⟨gb,j*2,none⟩=some va∧W1.frozen? ⟨gb,j*2,none⟩=false:=⟨_,box_cell hx9 (by rw [List.getElem?_toArray];exact List.getElem?_eq_getElem (by omega))⟩
 obtain ⟨vc,i2,i3⟩:∃ va,W1.cell? ⟨gb,j*2+1,none⟩=some va∧W1.frozen? ⟨gb,j*2+1,none⟩=false:=⟨_,box_cell hx9 (by rw [List.getElem?_toArray];exact List.getElem?_eq_getElem (by omega))⟩
 obtain ⟨v0,v1⟩:=HF.out.1.1.flag hj
 have kg:=cell_lt i0
 have kv:=cell_lt v0
 have hne:gb≠vb:=kind_ne hx9 HF.out.1.1.hv (by decide)
 have hne2:sb≠gb:=kind_ne HF.out.1.1.hs hx9 (by decide)
 have hne3:sb≠vb:=kind_ne HF.out.1.1.hs HF.out.1.1.hv (by decide)
 have HZ:Hid (SwC (((W1.setCell ⟨gb,j*2,none⟩ (.slice pa na ca)).setCell ⟨gb,j*2+1,none⟩ (.slice pb nb cb)).setCell ⟨vb,j,none⟩ (.bool true)) B sb tb gb vb N (l.set j A) (gv.set j true)∧Below B w (((W1.setCell ⟨gb,j*2,none⟩ (.slice pa na ca)).setCell ⟨gb,j*2+1,none⟩ (.slice pb nb cb)).setCell ⟨vb,j,none⟩ (.bool true))∧But2 gb vb w (((W1.setCell ⟨gb,j*2,none⟩ (.slice pa na ca)).setCell ⟨gb,j*2+1,none⟩ (.slice pb nb cb)).setCell ⟨vb,j,none⟩ (.bool true))):=by
  have h:=(HF.out.1.1.set hj HF.out.1.2.1 HF.out.1.2.2).mark j
  have bs:=HF.out.1.1.bs
  exact ⟨h,(((HF.out.2.1.mono HS.out.2).setCell (p:=⟨gb,j*2,none⟩) bs.2.1 _).setCell (p:=⟨gb,j*2+1,none⟩) bs.2.1 _).setCell (p:=⟨vb,j,none⟩) bs.2.2 _,((((But2.of HF.out.2.1).set (.inl rfl)).set (.inl rfl)).set (.inr rfl))⟩
 clear hx9 hk9 hl9 hN9
 go_region
 generalize hZ:World.drew _=Z
 have HZ2:Hid (SwC Z B sb tb gb vb N (l.set j A) (gv.set j true)∧Below B w Z∧But2 gb vb w Z):=by
  have d:∀ {U:World},U.drew=Z→Below U.heap.size U Z:=fun h=>by rw [← h];exact below_drew1 (Below.refl _ _)
  exact ⟨HZ.out.1.up (d hZ),HZ.out.2.1.trans ((d hZ).mono (Nat.le_trans HS.out.2 (by have:=HF.out.2.1.size;simpa using this))),HZ.out.2.2.up (d hZ)⟩
 clear hZ HZ HF
 go_wp2
 exact bodyPost_ret (v:=.int .i64 0) (by simp [results,Tryz.results53,go_sem]) rfl ⟨rfl,HZ2.out⟩
end Go.Proofs.YtpdkkcnmgiihcaaGreatDoor.Wd
