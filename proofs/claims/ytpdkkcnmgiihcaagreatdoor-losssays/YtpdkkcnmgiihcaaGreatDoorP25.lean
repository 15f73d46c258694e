/- A row of tensors that a call hands back: how it lies in memory. · The code's give: what a gradient of a node gives for its two. · Losses on a tape that is swept back: its nodes may be, what their Ops give is known. · The reference's One at a node that a sweep comes to. -/
import Derived.Test.YtpdkkcnmgiihcaaGreatDoorP20
import Derived.Test.YtpdkkcnmgiihcaaGreatDoorP24
import Derived.Test.YtpdkkcnmgiihcaaGreatDoorP14
import Derived.Test.YtpdkkcnmgiihcaaGreatDoorP18
set_option linter.unusedVariables false
set_option linter.unusedSimpArgs false
set_option maxHeartbeats 16000000
set_option maxRecDepth 16000
namespace Go.Proofs.YtpdkkcnmgiihcaaGreatDoor.Wd
open Go.RowKit Fx
/-- A tensor's two cells. -/
def TwC (W:World) (B:Nat) (t:Ten) (u:List Value):Prop:=∃ s v,u = [s,v]∧OwnK .i64 3 W B s t.1∧OwnK .i64 33 W B v t.2
def TsC (W:World) (B:Nat) (ts:List Ten) (xs:List Value):Prop:=xs.length=ts.length*2∧∀ i t,ts[i]?=some t→TwC W B t ((xs.drop (i*2)).take 2)
/-- A row of tensors of one's own. -/
def OwnTs (W:World) (B:Nat) (v:Value) (ts:List Ten):Prop:=∃ xs,W.ownsRow B 31 2 v ts.length xs∧TsC W B ts xs
theorem TwC.only {S:List TypeId} {W W':World} {B:Nat} {t:Ten} {u:List Value} (h:TwC W B t u) (ho:Only S W W') (h1:3∉S) (h2:33∉S):TwC W' B t u:=by
 obtain ⟨s,v,e,hs,hv⟩:=h
 exact ⟨s,v,e,hs.only ho h1,hv.only ho h2⟩
theorem OwnTs.only {S:List TypeId} {W W':World} {B:Nat} {v:Value} {ts:List Ten} (h:OwnTs W B v ts) (ho:Only S W W') (h1:3∉S) (h2:33∉S) (h3:31∉S):OwnTs W' B v ts:=by
 obtain ⟨xs,hx,hl,hc⟩:=h
 exact ⟨xs,owns_only hx ho h3,hl,fun i t ht=>(hc i t ht).only ho h1 h2⟩
theorem OwnTs.up {W W':World} {B:Nat} {v:Value} {ts:List Ten} (h:OwnTs W B v ts) (hB:Below W.heap.size W W'):OwnTs W' B v ts:=h.only (S:=[]) (Only.of hB) (by simp) (by simp) (by simp)
theorem OwnTs.nil (W:World) (B:Nat):OwnTs W B (.slice none 0 0) []:=⟨[],World.ownsRow_nil _ _ _ _,rfl,fun i t h=>by simp at h⟩
theorem OwnTs.low {W:World} {B B':Nat} {v:Value} {ts:List Ten} (h:OwnTs W B v ts) (hB:B'≤B):OwnTs W B' v ts:=by
 obtain ⟨xs,hx,hl,hc⟩:=h
 refine ⟨xs,⟨hx.1,?_⟩,hl,fun i t ht=>?_⟩
 ·rcases hx.2 with hn|⟨g,cap,cur,hv,hb,rest⟩
  ·exact .inl hn
  ·exact .inr ⟨g,cap,cur,hv,Nat.le_trans hB hb,rest⟩
 ·obtain ⟨s,u,e,hs,hu⟩:=hc i t ht
  exact ⟨s,u,e,hs.low hB,hu.low hB⟩
/-- What a walk reads of it. -/
theorem OwnTs.form {W:World} {B:Nat} {v:Value} {ts:List Ten} (h:OwnTs W B v ts):∃ p c,v = .slice p ts.length c∧ts.length≤c:=by
 obtain ⟨xs,hx,_⟩:=h
 rcases hx.2 with ⟨rfl,h0⟩|⟨g,cap,cur,rfl,_,_,hc,_⟩
 ·exact ⟨none,0,by rw [h0],by omega⟩
 ·exact ⟨_,_,rfl,hc⟩
theorem OwnTs.at {W:World} {B n c:Nat} {p:Option Addr} {ts:List Ten} (h:OwnTs W B (.slice p n c) ts) (i:Nat) (t:Ten) (hi:ts[i]?=some t):
  ∃ q s u,p=some ⟨q,0,none⟩∧W.cell? ⟨q,i*2,none⟩=some s∧W.cell? ⟨q,i*2+1,none⟩=some u∧OwnK .i64 3 W B s t.1∧OwnK .i64 33 W B u t.2:=by
 obtain ⟨xs,hx,hl,hc⟩:=h
 obtain ⟨s,u,e,hs,hu⟩:=hc i t hi
 have hlt:i < ts.length:=(List.getElem?_eq_some_iff.1 hi).1
 have hget:∀ j v,((xs.drop (i*2)).take 2)[j]?=some v→xs[i*2+j]?=some v:=fun j v h=>by
  rw [List.getElem?_take] at h
  split at h
  ·rw [List.getElem?_drop] at h
   exact h
  ·cases h
 rw [e] at hget
 rcases hx.2 with ⟨_,h0⟩|⟨g,cap,cur,hv,hb,hg,rest⟩
 ·omega
 ·cases hv
  have hcell:∀ j v,xs[j]?=some v→W.cell? ⟨g,j,none⟩=some v:=fun j v h=>by
   have:=hx.cells (g:=g) rfl j v h
   rw [addr_plus,Nat.zero_add] at this
   exact this
  exact ⟨g,s,u,rfl,hcell _ _ (hget 0 _ rfl),hcell _ _ (hget 1 _ rfl),hs,hu⟩
theorem below_drew1 {w w1:World} {B:Nat} (h:Below B w w1):Below B w w1.drew:=h.trans ⟨rfl,rfl,rfl,Nat.le_refl _,fun _ _=>rfl⟩
theorem fin22 {w W:World} {B b b':Nat} {s t s' t' s0 t0 s1 t1:Value} {D X D' X':List Int} (h6:Cel W b s0 t0) (h7:Cel W b' s1 t1) (hne:b≠b') (hB:Below w.heap.size w W) (hb:w.heap.size≤b) (hb':w.heap.size≤b') (hbB:b < B) (hbB':b' < B)
  (hs:OwnK .i64 3 W B s D) (ht:OwnK .i64 33 W B t X) (hs':OwnK .i64 3 W B s' D') (ht':OwnK .i64 33 W B t' X'):
  (Cel (set2 (set2 W b s t) b' s' t') b s t∧Cel (set2 (set2 W b s t) b' s' t') b' s' t')∧TRes (set2 (set2 W b s t) b' s' t') w.heap.size (.agg #[s,t]) D X∧TRes (set2 (set2 W b s t) b' s' t') w.heap.size (.agg #[s',t']) D' X'∧Below w.heap.size w (set2 (set2 W b s t) b' s' t'):=by
 have e1:=Stay.set2 (g:=b) W s t
 have e2:=Stay.set2 (g:=b') (set2 W b s t) s' t'
 have q1:∀ {e:TypeId} {v:Value} {l:List Int},OwnK .i64 e W B v l→OwnK .i64 e (set2 (set2 W b s t) b' s' t') w.heap.size v l:=fun h=>((h.stay e1 (h.off hbB)).stay e2 ((h.stay e1 (h.off hbB)).off hbB')).low (by omega)
 exact ⟨⟨(h6.set s t).stay e2 hne,(h7.stay e1 (Ne.symm hne)).set s' t'⟩,⟨_,_,rfl,q1 hs,q1 ht⟩,⟨_,_,rfl,q1 hs',q1 ht'⟩,below_set2 (below_set2 hB b hb s t) b' hb' s' t'⟩
/-- What a return of two tensors leaves. -/
theorem fin22z {w W Z U:World} {B b b':Nat} {s t s' t' s0 t0 s1 t1:Value} {D X D' X':List Int} (hU:set2 (set2 W b s t) b' s' t'=U) (hZ:Below U.heap.size U Z) (h6:Cel W b s0 t0) (h7:Cel W b' s1 t1) (hne:b≠b') (hB:Below w.heap.size w W) (hb:w.heap.size≤b) (hb':w.heap.size≤b') (hbB:b < B) (hbB':b' < B)
  (hs:OwnK .i64 3 W B s D) (ht:OwnK .i64 33 W B t X) (hs':OwnK .i64 3 W B s' D') (ht':OwnK .i64 33 W B t' X'):
  Hid (TRes Z w.heap.size (.agg #[s,t]) D X∧TRes Z w.heap.size (.agg #[s',t']) D' X'∧Below w.heap.size w Z)∧(Z.cell? ⟨b,0,none⟩=some s∧Z.cell? ⟨b,1,none⟩=some t)∧Z.cell? ⟨b',0,none⟩=some s'∧Z.cell? ⟨b',1,none⟩=some t':=by
 obtain ⟨⟨c6,c7⟩,r6,r7,hBz⟩:=fin22 (w:=w) h6 h7 hne hB hb hb' hbB hbB' hs ht hs' ht'
 rw [hU] at c6 c7 r6 r7 hBz
 have d6:=c6.up hZ
 have d7:=c7.up hZ
 exact ⟨⟨r6.up hZ,r7.up hZ,bstep hBz hZ⟩,⟨d6.1,d6.2.1⟩,d7.1,d7.2.1⟩
/-- What giveA and giveB tell at an Op, if it is one. -/
def GvC (op:Int):Prop:=(2≤op∧op≤14→GvP 82 onA op)∧(twoP op→GvP 83 onB op)
theorem GvC.leaf:GvC 1:=⟨fun h=>absurd h (by omega),fun h=>absurd h (by decide)⟩
/-- Every node's own number is Go's; what its Op gives is known. -/
def NodesK (ns:List Nd):Prop:=∀ nd,nd∈ns→InR nd.k∧GvC nd.op
theorem NodesK.nil:NodesK []:=fun nd h=>by simp at h
theorem NodesK.leaf {ns:List Nd} {d x:List Int} (h:NodesK ns):NodesK (leafN ns d x):=by
 unfold leafN
 split
 ·intro nd hm
  rcases List.mem_append.1 hm with h1|h1
  ·exact h nd h1
  ·simp at h1
   subst h1
   refine ⟨?_,GvC.leaf⟩
   show InR 0
   unfold InR
   omega
 ·exact h
theorem NodesK.do {ns:List Nd} {op a b k:Int} (h:NodesK ns) (hk:InR k) (hc:GvC op):NodesK (doN ns op a b k):=by
 unfold doN
 split
 ·intro nd hm
  rcases List.mem_append.1 hm with h1|h1
  ·exact h nd h1
  ·simp at h1
   subst h1
   refine ⟨?_,hc⟩
   show InR (dK op k)
   unfold dK
   split
   ·exact hk
   ·unfold InR
    omega
 ·exact h
theorem onA_one (k:Int) (a b g:Ten):onA 1 k a b g=([],[]):=by simp [onA]
theorem onB_no {op:Int} (h:¬ twoP op) (k:Int) (a b g:Ten):onB op k a b g=([],[]):=by
 have h2:op≠2:=fun e=>h (.inl e)
 have h3:op≠3:=fun e=>h (.inr (.inl e))
 have h4:op≠4:=fun e=>h (.inr (.inr (.inl e)))
 have h6:op≠6:=fun e=>h (.inr (.inr (.inr (.inl e))))
 have h12:op≠12:=fun e=>h (.inr (.inr (.inr (.inr e))))
 simp [onB,h2,h3,h4,h6,h12]
/-- What Value tells of any number. -/
theorem cval_any (B tb:Nat) (ns:List Nd) (hG:NodesG ns) (i:Int) (w:World) (hT:TapC w B tb ns):
  Calls Tryz.prog 15 #[.pointer (some ⟨tb,0,none⟩),.int .i64 i] w fun e w'=>∃ v q,e = .returned (.tuple #[v,.bool q])∧TRes w' w.heap.size v (if 0≤i∧i < (ns.length:Int) then (ndN ns i).D else []) (if 0≤i∧i < (ns.length:Int) then (ndN ns i).X else [])∧Below w.heap.size w w':=by
 by_cases h:0≤i∧i < (ns.length:Int)
 ·obtain ⟨j,rfl⟩:∃ j:Nat,i=(j:Int):=⟨i.toNat,by omega⟩
  rw [if_pos h,if_pos h]
  refine (cvalue_any B tb ns hG j _ (ndN_get (by omega)) w hT).mono ?_
  rintro e w' ⟨v,rfl,h1,h2⟩
  exact ⟨v,true,rfl,h1,h2⟩
 ·rw [if_neg h,if_neg h]
  refine (cvno_any B tb ns i (by omega) w hT).mono ?_
  rintro e w' ⟨rfl,h2⟩
  exact ⟨_,false,rfl,TRes.none _ _,h2⟩
theorem cgive_any (B tb:Nat) (ns:List Nd) (hG:NodesG ns) (hV:NodesV ns) (hNK:NodesK ns) (i:Nat) (op a b k:Int) (D X:List Int) (hi:ns[i]?=some ⟨op,a,b,k,D,X⟩) (ps pt p p2:Option Addr) (ns_ cs nt ct n c n2 c2:Nat) (g:Ten) (hg:TenG g) (eg:g.1=D) (hc2:n2≤c2) (w:World) (hT:TapC w B tb ns) (hTz:Hid (Tz w)) (h1:Nums .i64 w (.slice p n c) g.1) (h2:Nums .i64 w (.slice p2 n2 c2) g.2):
  Calls Tryz.prog 52 #[.pointer (some ⟨tb,0,none⟩),.agg #[.int .i64 op,.int .i64 a,.int .i64 b,.int .i64 k,.slice ps ns_ cs,.slice pt nt ct],.agg #[.slice p n c,.slice p2 n2 c2]] w fun e w'=>∃ u v,e = .returned (.tuple #[u,v,.int .i64 0])∧TRes w' w.heap.size u (onA op k (aOf ns ⟨op,a,b,k,D,X⟩) (bOf ns ⟨op,a,b,k,D,X⟩) g).1 (onA op k (aOf ns ⟨op,a,b,k,D,X⟩) (bOf ns ⟨op,a,b,k,D,X⟩) g).2∧TRes w' w.heap.size v (onB op k (aOf ns ⟨op,a,b,k,D,X⟩) (bOf ns ⟨op,a,b,k,D,X⟩) g).1 (onB op k (aOf ns ⟨op,a,b,k,D,X⟩) (bOf ns ⟨op,a,b,k,D,X⟩) g).2∧Below w.heap.size w w':=by
 have hkk:InR k:=(hNK _ (nd_mem hi)).1
 have hgc:GvC op:=(hNK _ (nd_mem hi)).2
 obtain ⟨RA,eRA⟩:∃ R,onA op k (aOf ns ⟨op,a,b,k,D,X⟩) (bOf ns ⟨op,a,b,k,D,X⟩) g=R:=⟨_,rfl⟩
 obtain ⟨RB,eRB⟩:∃ R,onB op k (aOf ns ⟨op,a,b,k,D,X⟩) (bOf ns ⟨op,a,b,k,D,X⟩) g=R:=⟨_,rfl⟩
 have hil:i < ns.length:=(List.getElem?_eq_some_iff.1 hi).1
 obtain ⟨ta,tb_,cva,cvb,cga,cgb⟩:∃ ta tb_:Ten,
   Hid (∀ W,Below w.heap.size w W→Calls Tryz.prog 15 #[.pointer (some ⟨tb,0,none⟩),.int .i64 a] W fun e w'=>∃ v q,e = .returned (.tuple #[v,.bool q])∧TRes w' W.heap.size v ta.1 ta.2∧Below W.heap.size W w')
   ∧ Hid (∀ W,Below w.heap.size w W→Calls Tryz.prog 15 #[.pointer (some ⟨tb,0,none⟩),.int .i64 b] W fun e w'=>∃ v q,e = .returned (.tuple #[v,.bool q])∧TRes w' W.heap.size v tb_.1 tb_.2∧Below W.heap.size W w')
   ∧ Hid (∀ W p3 p4 p5 p6 n3 c3 n4 c4 n5 c5 n6 c6,Below w.heap.size w W→Nums .i64 W (.slice p3 n3 c3) ta.1→Nums .i64 W (.slice p4 n4 c4) ta.2→Nums .i64 W (.slice p5 n5 c5) tb_.1→Nums .i64 W (.slice p6 n6 c6) tb_.2→n4≤c4→n6≤c6→Calls Tryz.prog 82 #[.agg #[.int .i64 op,.int .i64 a,.int .i64 b,.int .i64 k,.slice ps ns_ cs,.slice pt nt ct],.agg #[.slice p3 n3 c3,.slice p4 n4 c4],.agg #[.slice p5 n5 c5,.slice p6 n6 c6],.agg #[.slice p n c,.slice p2 n2 c2]] W fun e w'=>∃ v',e = .returned (.tuple #[v',.int .i64 0])∧TRes w' W.heap.size v' RA.1 RA.2∧Below W.heap.size W w')
   ∧ Hid (∀ W p3 p4 p5 p6 n3 c3 n4 c4 n5 c5 n6 c6,Below w.heap.size w W→Nums .i64 W (.slice p3 n3 c3) ta.1→Nums .i64 W (.slice p4 n4 c4) ta.2→Nums .i64 W (.slice p5 n5 c5) tb_.1→Nums .i64 W (.slice p6 n6 c6) tb_.2→n4≤c4→n6≤c6→Calls Tryz.prog 83 #[.agg #[.int .i64 op,.int .i64 a,.int .i64 b,.int .i64 k,.slice ps ns_ cs,.slice pt nt ct],.agg #[.slice p3 n3 c3,.slice p4 n4 c4],.agg #[.slice p5 n5 c5,.slice p6 n6 c6],.agg #[.slice p n c,.slice p2 n2 c2]] W fun e w'=>∃ v',e = .returned (.tuple #[v',.int .i64 0])∧TRes w' W.heap.size v' RB.1 RB.2∧Below W.heap.size W w'):=by
  have cv:=fun (j:Int) W (hW:Below w.heap.size w W)=>cval_any B tb ns hG j W (hT.up hW)
  by_cases h1':op=1
  ·subst h1'
   rw [onA_one] at eRA
   rw [onB_no (by decide)] at eRB
   subst eRA eRB
   exact ⟨((if 0≤a∧a < (ns.length:Int) then (ndN ns a).D else []),(if 0≤a∧a < (ns.length:Int) then (ndN ns a).X else [])),((if 0≤b∧b < (ns.length:Int) then (ndN ns b).D else []),(if 0≤b∧b < (ns.length:Int) then (ndN ns b).X else [])),fun W hW=>cv a W hW,fun W hW=>cv b W hW,fun W p3 p4 p5 p6 n3 c3 n4 c4 n5 c5 n6 c6 hW _ _ _ _ _ _=>ga_none 1 (by decide) ps pt p3 p4 p5 p6 p p2 ns_ cs nt ct n3 c3 n4 c4 n5 c5 n6 c6 n c n2 c2 a b k W,fun W p3 p4 p5 p6 n3 c3 n4 c4 n5 c5 n6 c6 hW _ _ _ _ _ _=>gb_none 1 (by decide) ps pt p3 p4 p5 p6 p p2 ns_ cs nt ct n3 c3 n4 c4 n5 c5 n6 c6 n c n2 c2 a b k W⟩
  ·obtain ⟨ok,ho,ha,hb,hb'⟩:=OkP.of hG hV hi h1' hg eg
   simp only [] at ok ho ha hb hb'
   have hva:=cv a
   rw [if_pos ⟨ha.1,by omega⟩,if_pos ⟨ha.1,by omega⟩] at hva
   have hvb:=cv b
   have eb:(if 0≤b∧b < (ns.length:Int) then (ndN ns b).D else [])=(bOf ns ⟨op,a,b,k,D,X⟩).1∧(if 0≤b∧b < (ns.length:Int) then (ndN ns b).X else [])=(bOf ns ⟨op,a,b,k,D,X⟩).2:=by
    show _=dD ns op b∧_=dX ns op b
    unfold dD dX
    by_cases ht:twoP op
    ·have:=hb ht
     rw [if_pos ht,if_pos ht,if_pos ⟨this.1,by omega⟩,if_pos ⟨this.1,by omega⟩]
     exact ⟨rfl,rfl⟩
    ·have:=hb' ht
     rw [if_neg ht,if_neg ht,if_neg (by omega),if_neg (by omega)]
     exact ⟨rfl,rfl⟩
   rw [eb.1,eb.2] at hvb
   refine ⟨aOf ns ⟨op,a,b,k,D,X⟩,bOf ns ⟨op,a,b,k,D,X⟩,hva,hvb,fun W p3 p4 p5 p6 n3 c3 n4 c4 n5 c5 n6 c6 hW u1 u2 u3 u4 u5 u6=>?_,fun W p3 p4 p5 p6 n3 c3 n4 c4 n5 c5 n6 c6 hW u1 u2 u3 u4 u5 u6=>?_⟩
   ·rw [← eRA]
    exact hgc.1 ho ps pt p3 p4 p5 p6 p p2 ns_ cs nt ct n3 c3 n4 c4 n5 c5 n6 c6 n c n2 c2 a b k _ _ g hkk ok u5 u6 hc2 W (Hid.up_tz hTz hW) u1 u2 u3 u4 (h1.up hW) (h2.up hW)
   ·rw [← eRB]
    by_cases ht:twoP op
    ·exact hgc.2 ht ps pt p3 p4 p5 p6 p p2 ns_ cs nt ct n3 c3 n4 c4 n5 c5 n6 c6 n c n2 c2 a b k _ _ g hkk ok u5 u6 hc2 W (Hid.up_tz hTz hW) u1 u2 u3 u4 (h1.up hW) (h2.up hW)
    ·rw [onB_no ht]
     exact gb_none op ht ps pt p3 p4 p5 p6 p p2 ns_ cs nt ct n3 c3 n4 c4 n5 c5 n6 c6 n c n2 c2 a b k W
 rw [eRA,eRB]
 clear eRA eRB hkk hgc hil hG hV hNK hi hg eg hc2 hT hTz h1 h2
 go_enter Tryz.func52,Tryz.ntmps52
 go_wp2_with fail
 generalize hW0:World.alloc _ _=W0
 have HB0:=hidB (w:=w) hW0 (by go_grown)
 have XN:Hid (W0.heap[w.heap.size]?=some (.cells #[.int .i64 op,.int .i64 a,.int .i64 b,.int .i64 k,.slice ps ns_ cs,.slice pt nt ct] 44 (0,0))):=by
  show _=_
  rw [← hW0]
  exact ((up_alloc _ _).block _ (by simp;try omega)).trans (((up_alloc _ _).block _ (by simp;try omega)).trans (((up_alloc _ _).block _ (by simp;try omega)).trans (heap_alloc_new _ _)))
 have XG:Hid (Cel W0 (w.heap.size+1) (.slice p n c) (.slice p2 n2 c2)):=celW hW0 (by simp [go_sem])
 have X6:Hid (Cel W0 (w.heap.size+2) (.slice none 0 0) (.slice none 0 0)):=celW hW0 (by simp [go_sem])
 have X7:Hid (Cel W0 (w.heap.size+3) (.slice none 0 0) (.slice none 0 0)):=celW hW0 (by simp [go_sem])
 clear hW0
 refine (cva.out W0 HB0.out).mono ?_
 rintro e w1 ⟨v1,q1,rfl,⟨s1,t1,rfl,hs1,ht1⟩,hB1⟩
 obtain ⟨p3,n3,c3,rfl⟩:=hs1.form_
 obtain ⟨p4,n4,c4,rfl⟩:=ht1.form_
 have HB1:=hid2 (bstep HB0.out hB1) hB1
 have HN1:Hid (Nums .i64 w1 (.slice p3 n3 c3) ta.1∧Nums .i64 w1 (.slice p4 n4 c4) ta.2∧n4≤c4):=⟨hs1.nums,ht1.nums,ht1.cap⟩
 have HX1:w1.heap[w.heap.size]?=some (.cells #[.int .i64 op,.int .i64 a,.int .i64 b,.int .i64 k,.slice ps ns_ cs,.slice pt nt ct] 44 (0,0)):=(hB1.block _ (heap_lt XN.out)).trans XN.out
 obtain ⟨⟨k0,k1,k2,k3,k4,k5⟩,_⟩:=box6 HX1
 have kz:=heap_lt HX1
 clear hs1 ht1 hB1 cva
 go_wp2_with fail
 generalize hW2:World.alloc _ _=W2
 have B2:Below w1.heap.size w1 W2:=by rw [← hW2];exact up_alloc _ _
 have XA2:Hid (Cel W2 w1.heap.size (.slice p3 n3 c3) (.slice p4 n4 c4)):=celW hW2 (by simp [go_sem])
 have HB2:=hid2 (bstep HB1.out.1 B2) (bstep HB1.out.2 B2)
 have HN2:Hid (Nums .i64 W2 (.slice p3 n3 c3) ta.1∧Nums .i64 W2 (.slice p4 n4 c4) ta.2∧n4≤c4):=⟨HN1.out.1.up B2,HN1.out.2.1.up B2,HN1.out.2.2⟩
 clear hW2 B2 HB1 HN1 HX1 k0 k1 k2 k3 k4 k5 kz
 refine (cvb.out W2 HB2.out.1).mono ?_
 rintro e w3 ⟨v3,q3,rfl,⟨s3,t3,rfl,hs3,ht3⟩,hB3⟩
 obtain ⟨p5,n5,c5,rfl⟩:=hs3.form_
 obtain ⟨p6,n6,c6,rfl⟩:=ht3.form_
 have HB3:=hid2 (bstep HB2.out.1 hB3) (bstep HB2.out.2 hB3)
 have HN3:Hid ((Nums .i64 w3 (.slice p3 n3 c3) ta.1∧Nums .i64 w3 (.slice p4 n4 c4) ta.2∧n4≤c4)∧Nums .i64 w3 (.slice p5 n5 c5) tb_.1∧Nums .i64 w3 (.slice p6 n6 c6) tb_.2∧n6≤c6):=⟨⟨HN2.out.1.up hB3,HN2.out.2.1.up hB3,HN2.out.2.2⟩,hs3.nums,ht3.nums,ht3.cap⟩
 have HX3:w3.heap[w.heap.size]?=some (.cells #[.int .i64 op,.int .i64 a,.int .i64 b,.int .i64 k,.slice ps ns_ cs,.slice pt nt ct] 44 (0,0)):=(HB3.out.2.block _ (heap_lt XN.out)).trans XN.out
 have XA3:Hid (Cel w3 w1.heap.size (.slice p3 n3 c3) (.slice p4 n4 c4)):=XA2.out.up hB3
 obtain ⟨⟨k0,k1,k2,k3,k4,k5⟩,_⟩:=box6 HX3
 have kz:=heap_lt HX3
 obtain ⟨xa0,xa1,_,_⟩:=XA3.out
 have ka:=cell_lt xa0
 obtain ⟨xg0,xg1,_,_⟩:=XG.out.up HB3.out.2
 have kg:=cell_lt xg0
 clear hs3 ht3 hB3 cvb HB2 HN2 XA2
 go_wp2_with fail
 generalize hW4:World.alloc _ _=W4
 have B4:Below w3.heap.size w3 W4:=by rw [← hW4];exact up_alloc _ _
 have XB4:Hid (Cel W4 w3.heap.size (.slice p5 n5 c5) (.slice p6 n6 c6)):=celW hW4 (by simp [go_sem])
 have XA4:Hid (Cel W4 w1.heap.size (.slice p3 n3 c3) (.slice p4 n4 c4)):=XA3.out.up B4
 have HB4:=hid2 (bstep HB3.out.1 B4) (bstep HB3.out.2 B4)
 have HN4:Hid ((Nums .i64 W4 (.slice p3 n3 c3) ta.1∧Nums .i64 W4 (.slice p4 n4 c4) ta.2∧n4≤c4)∧Nums .i64 W4 (.slice p5 n5 c5) tb_.1∧Nums .i64 W4 (.slice p6 n6 c6) tb_.2∧n6≤c6):=⟨⟨HN3.out.1.1.up B4,HN3.out.1.2.1.up B4,HN3.out.1.2.2⟩,HN3.out.2.1.up B4,HN3.out.2.2.1.up B4,HN3.out.2.2.2⟩
 clear hW4 B4 HB3 HN3 HX3 k0 k1 k2 k3 k4 k5 kz xa0 xa1 ka xg0 xg1 kg XA3
 refine (cga.out W4 _ _ _ _ _ _ _ _ _ _ _ _ HB4.out.1 HN4.out.1.1 HN4.out.1.2.1 HN4.out.2.1 HN4.out.2.2.1 HN4.out.1.2.2 HN4.out.2.2.2).mono ?_
 rintro e w5 ⟨v5,rfl,⟨s5,t5,rfl,hs5,ht5⟩,hB5⟩
 obtain ⟨pa,na,ca,rfl⟩:=hs5.form_
 obtain ⟨pb,nb,cb,rfl⟩:=ht5.form_
 have HB5:=hid2 (bstep HB4.out.1 hB5) (bstep HB4.out.2 hB5)
 have HN5:Hid ((Nums .i64 w5 (.slice p3 n3 c3) ta.1∧Nums .i64 w5 (.slice p4 n4 c4) ta.2∧n4≤c4)∧Nums .i64 w5 (.slice p5 n5 c5) tb_.1∧Nums .i64 w5 (.slice p6 n6 c6) tb_.2∧n6≤c6):=⟨⟨HN4.out.1.1.up hB5,HN4.out.1.2.1.up hB5,HN4.out.1.2.2⟩,HN4.out.2.1.up hB5,HN4.out.2.2.1.up hB5,HN4.out.2.2.2⟩
 have HR5:Hid (OwnK .i64 3 w5 W0.heap.size (.slice pa na ca) RA.1∧OwnK .i64 33 w5 W0.heap.size (.slice pb nb cb) RA.2):=⟨hs5.low HB4.out.2.size,ht5.low HB4.out.2.size⟩
 have HX5:w5.heap[w.heap.size]?=some (.cells #[.int .i64 op,.int .i64 a,.int .i64 b,.int .i64 k,.slice ps ns_ cs,.slice pt nt ct] 44 (0,0)):=(HB5.out.2.block _ (heap_lt XN.out)).trans XN.out
 obtain ⟨⟨k0,k1,k2,k3,k4,k5⟩,_⟩:=box6 HX5
 have kz:=heap_lt HX5
 obtain ⟨xa0,xa1,_,_⟩:=XA4.out.up hB5
 have ka:=cell_lt xa0
 obtain ⟨xb0,xb1,_,_⟩:=XB4.out.up hB5
 have kb:=cell_lt xb0
 obtain ⟨xg0,xg1,_,_⟩:=XG.out.up HB5.out.2
 have kg:=cell_lt xg0
 clear hs5 ht5 hB5 cga HB4 HN4 XA4 XB4
 go_wp2_with fail
 generalize hW6:World.alloc _ _=W6
 have B6:Below w5.heap.size w5 W6:=by rw [← hW6];exact up_alloc _ _
 have XF6:Hid (Cel W6 w5.heap.size (.slice pa na ca) (.slice pb nb cb)):=celW hW6 (by simp [go_sem])
 have HB6:=hid2 (bstep HB5.out.1 B6) (bstep HB5.out.2 B6)
 have HN6:Hid ((Nums .i64 W6 (.slice p3 n3 c3) ta.1∧Nums .i64 W6 (.slice p4 n4 c4) ta.2∧n4≤c4)∧Nums .i64 W6 (.slice p5 n5 c5) tb_.1∧Nums .i64 W6 (.slice p6 n6 c6) tb_.2∧n6≤c6):=⟨⟨HN5.out.1.1.up B6,HN5.out.1.2.1.up B6,HN5.out.1.2.2⟩,HN5.out.2.1.up B6,HN5.out.2.2.1.up B6,HN5.out.2.2.2⟩
 have HR6:Hid (OwnK .i64 3 W6 W0.heap.size (.slice pa na ca) RA.1∧OwnK .i64 33 W6 W0.heap.size (.slice pb nb cb) RA.2):=⟨HR5.out.1.up B6,HR5.out.2.up B6⟩
 clear hW6 B6 HB5 HN5 HX5 k0 k1 k2 k3 k4 k5 kz xa0 xa1 ka xb0 xb1 kb xg0 xg1 kg HR5
 refine (cgb.out W6 _ _ _ _ _ _ _ _ _ _ _ _ HB6.out.1 HN6.out.1.1 HN6.out.1.2.1 HN6.out.2.1 HN6.out.2.2.1 HN6.out.1.2.2 HN6.out.2.2.2).mono ?_
 rintro e w7 ⟨v7,rfl,⟨s7,t7,rfl,hs7,ht7⟩,hB7⟩
 obtain ⟨pc,nc,cc,rfl⟩:=hs7.form_
 obtain ⟨pd,nd,cd,rfl⟩:=ht7.form_
 have HB7:=hid2 (bstep HB6.out.1 hB7) (bstep HB6.out.2 hB7)
 have HR7:Hid ((OwnK .i64 3 w7 W0.heap.size (.slice pa na ca) RA.1∧OwnK .i64 33 w7 W0.heap.size (.slice pb nb cb) RA.2)∧OwnK .i64 3 w7 W0.heap.size (.slice pc nc cc) RB.1∧OwnK .i64 33 w7 W0.heap.size (.slice pd nd cd) RB.2):=⟨⟨HR6.out.1.up hB7,HR6.out.2.up hB7⟩,hs7.low HB6.out.2.size,ht7.low HB6.out.2.size⟩
 have XF7:Hid (Cel w7 w5.heap.size (.slice pa na ca) (.slice pb nb cb)):=XF6.out.up hB7
 clear hs7 ht7 hB7 cgb HB6 HN6 XF6 HR6
 go_wp2_with fail
 generalize hW8:World.alloc _ _=W8
 have B8:Below w7.heap.size w7 W8:=by rw [← hW8];exact up_alloc _ _
 have XH8:Cel W8 w7.heap.size (.slice pc nc cc) (.slice pd nd cd):=(celW hW8 (by simp [go_sem])).out
 have XF8:=XF7.out.up B8
 have HB8:=hid2 (bstep HB7.out.1 B8) (bstep HB7.out.2 B8)
 have HR8:Hid ((OwnK .i64 3 W8 W0.heap.size (.slice pa na ca) RA.1∧OwnK .i64 33 W8 W0.heap.size (.slice pb nb cb) RA.2)∧OwnK .i64 3 W8 W0.heap.size (.slice pc nc cc) RB.1∧OwnK .i64 33 W8 W0.heap.size (.slice pd nd cd) RB.2):=⟨⟨HR7.out.1.1.up B8,HR7.out.1.2.up B8⟩,HR7.out.2.1.up B8,HR7.out.2.2.up B8⟩
 have h56:=cell_lt XF7.out.1
 have h5s:=HB7.out.2.size
 have hx7:=cell_lt X7.out.1
 have x6:=X6.out.up HB8.out.2
 have x7:=X7.out.up HB8.out.2
 have X68:Hid (Cel W8 (w.heap.size+2) (.slice none 0 0) (.slice none 0 0)):=x6
 have X78:Hid (Cel W8 (w.heap.size+3) (.slice none 0 0) (.slice none 0 0)):=x7
 obtain ⟨u0,u1,u2,u3⟩:=x6
 obtain ⟨v0,v1,v2,v3⟩:=x7
 obtain ⟨f0,f1,_,_⟩:=XF8
 obtain ⟨y0,y1,_,_⟩:=XH8
 have j0:=cell_lt u0
 have j1:=cell_lt v0
 have j2:=cell_lt f0
 have j3:=cell_lt y0
 clear hW8 B8 HB7 HR7 XF7
 go_region
 generalize hZ:World.drew _=Z
 obtain ⟨HZ,⟨e0,e1⟩,e2,e3⟩:=fin22z (w:=w) (B:=W0.heap.size) (Z:=Z) rfl (by rw [← hZ];exact below_drew1 (Below.refl _ _)) X68.out X78.out (by omega) HB8.out.1 (by omega) (by omega) (by omega) (by omega) HR8.out.1.1 HR8.out.1.2 HR8.out.2.1 HR8.out.2.2
 clear hZ
 go_wp2
 exact bodyPost_ret (v:=.tuple #[.agg #[.slice pa na ca,.slice pb nb cb],.agg #[.slice pc nc cc,.slice pd nd cd],.int .i64 0]) (by simp [results,Tryz.results52,go_sem,e0,e1,e2,e3]) rfl ⟨_,_,rfl,HZ.out⟩
theorem NodesV.ls {ns:List Nd} {s:Nd} (h:NodesV ns):NodesV (lsN ns s):=by
 unfold lsN
 split
 ·exact h.leaf
 ·exact h.do
theorem NodesV.lyF {ns sts:List Nd} (h:NodesV ns):∀ i,NodesV (lyF sts ns i).2.1
 | 0=>h
 | i+1=>by
  show NodesV (if (Wd.lyF sts ns i).1=0 then (lsE (Wd.lyF sts ns i).2.1 (stA sts i),lsN (Wd.lyF sts ns i).2.1 (stA sts i),lsR (Wd.lyF sts ns i).2.1 (stA sts i)) else Wd.lyF sts ns i).2.1
  split
  ·exact (NodesV.lyF h i).ls
  ·exact NodesV.lyF h i
theorem NodesV.lo {ns sts:List Nd} {e:Int} (h:NodesV ns):NodesV (loN e ns sts):=by
 unfold loN
 split
 ·unfold lyM
  split
  ·exact NodesV.lyF h _
  ·exact h
 ·exact h
theorem gv_loss {op:Int} (h:op=2∨op=3∨op=4∨op=9∨op=10∨op=11):GvC op:=by
 rcases h with rfl|rfl|rfl|rfl|rfl|rfl
 ·exact ⟨fun _=>ga2,fun _=>gb2⟩
 ·exact ⟨fun _=>ga3,fun _=>gb3⟩
 ·exact ⟨fun _=>ga4,fun _=>gb4⟩
 ·exact ⟨fun _=>ga9,fun h=>absurd h (by decide)⟩
 ·exact ⟨fun _=>ga10,fun h=>absurd h (by decide)⟩
 ·exact ⟨fun _=>ga11,fun h=>absurd h (by decide)⟩
/-- A step whose node may be swept over. -/
def StpK (s:Nd):Prop:=InR s.k∧(s.op≠1→GvC s.op)
theorem NodesK.ls {ns:List Nd} {s:Nd} (h:NodesK ns) (hs:StpK s):NodesK (lsN ns s):=by
 unfold lsN
 split
 ·exact h.leaf
 ·rename_i h1
  exact h.do hs.1 (hs.2 h1)
theorem NodesK.lyF {ns sts:List Nd} (h:NodesK ns) (hs:∀ i,StpK (stA sts i)):∀ i,NodesK (lyF sts ns i).2.1
 | 0=>h
 | i+1=>by
  show NodesK (if (Wd.lyF sts ns i).1=0 then (lsE (Wd.lyF sts ns i).2.1 (stA sts i),lsN (Wd.lyF sts ns i).2.1 (stA sts i),lsR (Wd.lyF sts ns i).2.1 (stA sts i)) else Wd.lyF sts ns i).2.1
  split
  ·exact (NodesK.lyF h hs i).ls (hs i)
  ·exact NodesK.lyF h hs i
theorem NodesK.lo {ns sts:List Nd} {e:Int} (h:NodesK ns) (hs:∀ i,StpK (stA sts i)):NodesK (loN e ns sts):=by
 unfold loN
 split
 ·unfold lyM
  split
  ·exact NodesK.lyF h hs _
  ·exact h
 ·exact h
theorem stpk_leaf (y:List Int):StpK (lfS y):=⟨by show InR 0;unfold InR;omega,fun h=>absurd rfl h⟩
theorem stpk_op {op a b k:Int} (h:op=2∨op=3∨op=4∨op=9∨op=10∨op=11) (hk:InR k):StpK (opS op a b k):=⟨hk,fun _=>gv_loss h⟩
theorem stpk_no:StpK ⟨1,0,0,0,[],[]⟩:=⟨by show InR 0;unfold InR;omega,fun h=>absurd rfl h⟩
theorem sqS_K {N o:Int} {y:List Int}:∀ i,StpK (stA (sqS N o y) i)
 | 0=>stpk_leaf y
 | 1=>stpk_op (by omega) (by unfold InR;omega)
 | 2=>stpk_op (by omega) (by unfold InR;omega)
 | 3=>stpk_op (by omega) (by unfold InR;omega)
 | _+4=>stpk_no
theorem szS_K {N o:Int} {y:List Int}:∀ i,StpK (stA (szS N o y) i)
 | 0=>stpk_leaf y
 | 1=>stpk_op (by omega) (by unfold InR;omega)
 | 2=>stpk_op (by omega) (by unfold InR;omega)
 | 3=>stpk_op (by omega) (by unfold InR;omega)
 | _+4=>stpk_no
theorem hgS_K {N o:Int} {n:Nat} {c:Int}:∀ i,StpK (stA (hgS N o n c) i)
 | 0=>stpk_leaf _
 | 1=>stpk_leaf _
 | 2=>stpk_op (by omega) (by unfold InR;omega)
 | 3=>stpk_op (by omega) (by unfold InR;omega)
 | 4=>stpk_op (by omega) (by unfold InR;omega)
 | 5=>stpk_op (by omega) (by unfold InR;omega)
 | 6=>stpk_op (by omega) (by unfold InR;omega)
 | 7=>stpk_op (by omega) (by unfold InR;omega)
 | 8=>stpk_op (by omega) (by unfold InR;omega)
 | _+9=>stpk_no
theorem one_V {n:Nat} {x:List Int} (hx:RwP n x):NodesV (one1 n x):=by
 have:=NodesV.leaf (d:=[(n:Int)]) (x:=x) NodesV.nil
 rwa [(one_ok hx).2.2] at this
theorem one_K {n:Nat} {x:List Int} (hx:RwP n x):NodesK (one1 n x):=by
 have:=NodesK.leaf (d:=[(n:Int)]) (x:=x) NodesK.nil
 rwa [(one_ok hx).2.2] at this
theorem Fit.sqVK {ms:List Nd} {o:Int} {n:Nat} {x y:List Int} (h:Fit ms o n x y 4) (hV:NodesV ms) (hK:NodesK ms):NodesV (sq4 ms o n x y)∧NodesK (sq4 ms o n x y):=by
 have a:=hV.lo (e:=fitE ms o y) (sts:=sqS (ms.length:Int) o y)
 have b:=hK.lo (e:=fitE ms o y) (sqS_K (N:=(ms.length:Int)) (o:=o) (y:=y))
 rw [h.square.2.2] at a b
 exact ⟨a,b⟩
theorem Fit.szVK {ms:List Nd} {o:Int} {n:Nat} {x y:List Int} (h:Fit ms o n x y 4) (hV:NodesV ms) (hK:NodesK ms):NodesV (sz4 ms o n x y)∧NodesK (sz4 ms o n x y):=by
 have a:=hV.lo (e:=fitE ms o y) (sts:=szS (ms.length:Int) o y)
 have b:=hK.lo (e:=fitE ms o y) (szS_K (N:=(ms.length:Int)) (o:=o) (y:=y))
 rw [h.size.2.2] at a b
 exact ⟨a,b⟩
/-- What the reference's One tells at one Op. -/
def RnP (op:Int):Prop:=∀ (B tb:Nat) (ns:List Nd) (i:Nat) (b k:Int) (D X:List Int) (ai:Nat) (hnd:ns[i]?=some ⟨op,(ai:Int),b,k,D,X⟩) (hai0:ai < i) (nda:Nd) (hk:InR k) (hnda:ns[ai]?=some nda) (hga:TnsG nda.D nda.X) (dB_ xB_:List Int) (hRB:RI dB_∧RI xB_) (h2:(twoP op∧∃ (bi:Nat) (ndb:Nd),bi < i∧b=(bi:Int)∧ns[bi]?=some ndb∧dB_=ndb.D∧xB_=ndb.X)∨(¬ twoP op∧b = -1∧dB_ = []∧xB_ = [])) (p p2:Option Addr) (m c m2 c2:Nat) (g:Ten) (hg:TenG g) (eg:g.1=D) (ok:OkP op k (nda.D,nda.X) (dB_,xB_) g) (w:World) (hT:Tap 41 47 w B tb ns) (g1:Nums .i64 w (.slice p m c) g.1) (g2:Nums .i64 w (.slice p2 m2 c2) g.2),Calls Tryz.prog 39 #[.pointer (some ⟨tb,0,none⟩),.int .i64 (i:Int),.agg #[.slice p m c,.slice p2 m2 c2]] w fun e w'=>∃ u v,e = .returned (.tuple #[u,v,.int .i64 0])∧TRes w' w.heap.size u (onA op k (nda.D,nda.X) (dB_,xB_) g).1 (onA op k (nda.D,nda.X) (dB_,xB_) g).2∧TRes w' w.heap.size v (onB op k (nda.D,nda.X) (dB_,xB_) g).1 (onB op k (nda.D,nda.X) (dB_,xB_) g).2∧Below w.heap.size w w'
def NodesR (ns:List Nd):Prop:=∀ nd,nd∈ns→InR nd.k∧(nd.op≠1→RnP nd.op)
theorem rone_at {ns:List Nd} (hR:NodesR ns) (hG:NodesG ns) (hV:NodesV ns) {i:Nat} {nd:Nd} (hi:ns[i]?=some nd) (h1:nd.op≠1) (g:Ten) (hg:TenG g) (eg:g.1=nd.D) (B tb:Nat) (p p2:Option Addr) (m c m2 c2:Nat) (w:World) (hT:Tap 41 47 w B tb ns) (g1:Nums .i64 w (.slice p m c) g.1) (g2:Nums .i64 w (.slice p2 m2 c2) g.2):
  Calls Tryz.prog 39 #[.pointer (some ⟨tb,0,none⟩),.int .i64 (i:Int),.agg #[.slice p m c,.slice p2 m2 c2]] w fun e w'=>∃ u v,e = .returned (.tuple #[u,v,.int .i64 0])∧TRes w' w.heap.size u (onA nd.op nd.k (aOf ns nd) (bOf ns nd) g).1 (onA nd.op nd.k (aOf ns nd) (bOf ns nd) g).2∧TRes w' w.heap.size v (onB nd.op nd.k (aOf ns nd) (bOf ns nd) g).1 (onB nd.op nd.k (aOf ns nd) (bOf ns nd) g).2∧Below w.heap.size w w':=by
 obtain ⟨ok,ho,ha,hb,hb'⟩:=OkP.of hG hV hi h1 hg eg
 obtain ⟨hk,hr⟩:=hR nd (nd_mem hi)
 have hil:i < ns.length:=(List.getElem?_eq_some_iff.1 hi).1
 obtain ⟨op,a,b,k,D,X⟩:=nd
 simp only [] at ok ho ha hb hb' hk hr h1 eg ⊢
 obtain ⟨ai,rfl⟩:∃ ai:Nat,a=(ai:Int):=⟨a.toNat,by omega⟩
 have hnda:ns[ai]?=some (ndN ns (ai:Int)):=ndN_get (by omega)
 have hga:TnsG (ndN ns (ai:Int)).D (ndN ns (ai:Int)).X:=hG _ (nd_mem hnda)
 refine hr h1 B tb ns i b k D X ai hi (by omega) (ndN ns (ai:Int)) hk hnda hga (dD ns op b) (dX ns op b) ?_ ?_ p p2 m c m2 c2 g hg eg ok w hT g1 g2
 ·unfold dD dX
  by_cases h2:twoP op
  ·rw [if_pos h2,if_pos h2]
   have:=hb h2
   exact (hG.at this.1 (by omega)).2
  ·rw [if_neg h2,if_neg h2]
   exact ⟨fun y hy=>by simp at hy,fun y hy=>by simp at hy⟩
 ·by_cases h2:twoP op
  ·have:=hb h2
   obtain ⟨bi,rfl⟩:∃ bi:Nat,b=(bi:Int):=⟨b.toNat,by omega⟩
   exact .inl ⟨h2,bi,_,by omega,rfl,ndN_get (by omega),if_pos h2,if_pos h2⟩
  ·exact .inr ⟨h2,hb' h2,if_neg h2,if_neg h2⟩
end Go.Proofs.YtpdkkcnmgiihcaaGreatDoor.Wd
