/- The code's sweep: a node gives on. · The code's start of a sweep. · The code's Sweep. · The loss of a kind; one example's gradient. · One example's gradient, and loss. · What grad's calls tell, handed over as contracts. -/
import Derived.Test.YtjlofobnmjompaaGreatDoorJ42
import Derived.Test.YtjlofobnmjompaaGreatDoorJ39
import Derived.BigQuiet
import Derived.Test.YtjlofobnmjompaaGreatDoorJ40
set_option linter.unusedVariables false
set_option linter.unusedSimpArgs false
set_option maxHeartbeats 16000000
set_option maxRecDepth 16000
namespace Go.Proofs.YtjlofobnmjompaaGreatDoor.Wd
open Go.RowKit Fx
def TupR (B:Nat) (a b:Ten) (v:Value) (W:World):Prop:=∃ u q,v = .tuple #[u,q,.int .i64 0]∧OwnT B a.1 a.2 u W∧OwnT B b.1 b.2 q W
theorem TupR.up {B:Nat} {a b:Ten} {v:Value} {W W':World} (h:TupR B a b v W) (hB:Below W.heap.size W W'):TupR B a b v W':=by
 obtain ⟨u,q,e,h1,h2⟩:=h
 exact ⟨u,q,e,h1.up hB,h2.up hB⟩
theorem cpass_any (B B0 tb:Nat) (ns:List Nd) (hG:NodesG ns) (hV:NodesV ns) (hNK:NodesK ns) (root i:Nat) (hr:root < ns.length) (hi:i≤root) (sw:SwT) (hsg:SwG ns root sw) (sb gb vb:Nat) (w:World) (hT:TapC w B0 tb ns) (hTz:Hid (Tz w)) (hS:SwC w B sb tb gb vb (root+1) sw.1 sw.2) (hB:B≤w.heap.size):
  Calls Tryz.prog 46 #[.pointer (some ⟨sb,0,none⟩),.int .i64 (i:Int)] w fun e w'=>e = .returned (.int .i64 0)∧SwC w' B sb tb gb vb (root+1) (swStep ns i sw).1 (swStep ns i sw).2∧Below B w w':=by
 obtain ⟨N,eN⟩:∃ N,root+1=N:=⟨_,rfl⟩
 rw [eN] at hS ⊢
 have hiN:i < N:=by omega
 have hiN':(i:Int) < (N:Int):=by omega
 obtain ⟨b0,b1,b2⟩:=hS.tape
 obtain ⟨v0,v1⟩:=hS.flag hiN
 have kb:=cell_lt b0
 have kv:=cell_lt v0
 by_cases hgv:sw.2.getD i false=true
 rotate_left
 ·have e0:swStep ns i sw=sw:=if_neg fun h=>hgv h.1
  rw [e0]
  have e1:sw.2.getD i false=false:=by simpa using hgv
  rw [e1] at v0
  have HS:Hid (SwC w B sb tb gb vb N sw.1 sw.2):=hS
  clear hS hT hG hV hNK hsg hTz e0 e1 hgv eN
  go_enter Tryz.func46,Tryz.ntmps46
  go_wp2
  exact bodyPost_ret (v:=.int .i64 0) (by simp [results,Tryz.results46,go_sem]) rfl ⟨rfl,HS.out,Below.refl _ _⟩
 rw [hgv] at v0
 obtain ⟨⟨op,a,b,k,D,X⟩,end_⟩:∃ nd,ndN ns (i:Int)=nd:=⟨_,rfl⟩
 have hnd:ns[i]?=some ⟨op,a,b,k,D,X⟩:=by rw [← end_];exact ndN_get (by omega)
 obtain ⟨g,eg⟩:∃ g,sw.1.getD i noT=g:=⟨_,rfl⟩
 have hgl:sw.1[i]?=some g:=by rw [← eg,List.getD_eq_getElem?_getD,List.getElem?_eq_getElem (by rw [hsg.l];omega)];rfl
 have hg:=hsg.g i hi
 rw [eg,end_] at hg
 obtain ⟨gs,gu,⟨c0,f0⟩,⟨c1,f1⟩,hgs,hgu⟩:=hS.read hgl
 obtain ⟨p,n,c,rfl⟩:=hgs.form_
 obtain ⟨p2,n2,c2,rfl⟩:=hgu.form_
 obtain ⟨RA,eRA⟩:∃ R,onA op k (aOf ns ⟨op,a,b,k,D,X⟩) (bOf ns ⟨op,a,b,k,D,X⟩) g=R:=⟨_,rfl⟩
 obtain ⟨RB,eRB⟩:∃ R,onB op k (aOf ns ⟨op,a,b,k,D,X⟩) (bOf ns ⟨op,a,b,k,D,X⟩) g=R:=⟨_,rfl⟩
 have cAt:Hid (∀ W,Below w.heap.size w W→Calls Tryz.prog 47 #[.pointer (some ⟨tb,0,none⟩),.int .i64 (i:Int)] W fun e w'=>∃ s t,e = .returned (.tuple #[.agg #[.int .i64 op,.int .i64 a,.int .i64 b,.int .i64 k,s,t],.bool true])∧OwnK .i64 3 w' W.heap.size s D∧OwnK .i64 23 w' W.heap.size t X∧Below W.heap.size W w'):=fun W hW=>cat_any B0 tb ns hG i _ hnd W (hT.up hW)
 have cGv:Hid (∀ W ps ns_ cs pt nt ct,Below w.heap.size w W→Calls Tryz.prog 68 #[.pointer (some ⟨tb,0,none⟩),.agg #[.int .i64 op,.int .i64 a,.int .i64 b,.int .i64 k,.slice ps ns_ cs,.slice pt nt ct],.agg #[.slice p n c,.slice p2 n2 c2]] W fun e w'=>∃ u v,e = .returned (.tuple #[u,v,.int .i64 0])∧TRes w' W.heap.size u RA.1 RA.2∧TRes w' W.heap.size v RB.1 RB.2∧Below W.heap.size W w'):=fun W ps ns_ cs pt nt ct hW=>by
  rw [← eRA,← eRB]
  exact cgive_any B0 tb ns hG hV hNK i op a b k D X hnd ps pt p p2 ns_ cs nt ct n c n2 c2 g hg.1 hg.2 hgu.cap W (hT.up hW) (Hid.up_tz hTz hW) (hgs.nums.up hW) (hgu.nums.up hW)
 obtain ⟨s1,cA1,cA2⟩:∃ s1:SwT,Hid (∀ W p1 q1 n1 c1 m1 e1,SwC W B sb tb gb vb N sw.1 sw.2→B≤W.heap.size→Nums .i64 W (.slice p1 n1 c1) RA.1→Nums .i64 W (.slice q1 m1 e1) RA.2→Calls Tryz.prog 69 #[.pointer (some ⟨sb,0,none⟩),.int .i64 a,.agg #[.slice p1 n1 c1,.slice q1 m1 e1]] W fun e w'=>e = .returned (.int .i64 0)∧SwC w' B sb tb gb vb N s1.1 s1.2∧Below B W w'∧But2 gb vb W w')
   ∧ Hid (∀ W p1 q1 n1 c1 m1 e1,SwC W B sb tb gb vb N s1.1 s1.2→B≤W.heap.size→Nums .i64 W (.slice p1 n1 c1) RB.1→Nums .i64 W (.slice q1 m1 e1) RB.2→Calls Tryz.prog 69 #[.pointer (some ⟨sb,0,none⟩),.int .i64 b,.agg #[.slice p1 n1 c1,.slice q1 m1 e1]] W fun e w'=>e = .returned (.int .i64 0)∧SwC w' B sb tb gb vb N (swStep ns i sw).1 (swStep ns i sw).2∧Below B W w'∧But2 gb vb W w'):=by
  have no:∀ (z:Int) (s:SwT),z < 0→∀ (W:World) (p1 q1:Option Addr) (n1 c1 m1 e1:Nat),SwC W B sb tb gb vb N s.1 s.2→B≤W.heap.size→Calls Tryz.prog 69 #[.pointer (some ⟨sb,0,none⟩),.int .i64 z,.agg #[.slice p1 n1 c1,.slice q1 m1 e1]] W fun e w'=>e = .returned (.int .i64 0)∧SwC w' B sb tb gb vb N s.1 s.2∧Below B W w'∧But2 gb vb W w':=fun z s hz W p1 q1 n1 c1 m1 e1 h hb=>by
   refine (cadd_no z hz sb p1 q1 n1 c1 m1 e1 W).mono ?_
   rintro e w' ⟨rfl,hw⟩
   exact ⟨rfl,h.up hw,hw.mono hb,But2.of hw⟩
  have yes:∀ (j:Nat) (s:SwT) (R:Ten),SwG ns root s→j≤root→TenG R→R.1=(ndN ns (j:Int)).D→∀ (W:World) (p1 q1:Option Addr) (n1 c1 m1 e1:Nat),SwC W B sb tb gb vb N s.1 s.2→B≤W.heap.size→Nums .i64 W (.slice p1 n1 c1) R.1→Nums .i64 W (.slice q1 m1 e1) R.2→Calls Tryz.prog 69 #[.pointer (some ⟨sb,0,none⟩),.int .i64 (j:Int),.agg #[.slice p1 n1 c1,.slice q1 m1 e1]] W fun e w'=>e = .returned (.int .i64 0)∧SwC w' B sb tb gb vb N (swGive s j R).1 (swGive s j R).2∧Below B W w'∧But2 gb vb W w':=fun j s R hs hj hR eR W p1 q1 n1 c1 m1 e1 h hb u1 u2=>by
   have q:=hs.g j hj
   exact cadd_any B sb tb gb vb N s.1 s.2 j (by omega) (s.1.getD j noT) R (by rw [List.getD_eq_getElem?_getD,List.getElem?_eq_getElem (by rw [hs.l];omega)];rfl) q.1 hR (eR.trans q.2.symm) p1 q1 n1 c1 m1 e1 W h hb u1 u2
  have hop:(ndN ns (i:Int)).op=op:=by rw [end_]
  by_cases ho:op=1
  ·have e0:swStep ns i sw=sw:=if_neg fun h=>h.2 (hop.trans ho)
   rw [e0]
   have hab:a = -1∧b = -1:=by
    rcases hV i _ hnd with h|⟨h,_⟩
    ·exact h.2
    ·have:(2:Int)≤op:=h.1
     omega
   exact ⟨sw,fun W p1 q1 n1 c1 m1 e1 h hb _ _=>no a sw (by omega) W p1 q1 n1 c1 m1 e1 h hb,fun W p1 q1 n1 c1 m1 e1 h hb _ _=>no b sw (by omega) W p1 q1 n1 c1 m1 e1 h hb⟩
  ·obtain ⟨o1,o2⟩:=on_g hG hV hnd ho hg.1 hg.2
   simp only [] at o1 o2
   rw [eRA] at o1
   rw [eRB] at o2
   rcases hV i _ hnd with h|⟨hop2,ha,hb,hb',_⟩
   ·exact absurd h.1 ho
   simp only [] at hop2 ha hb hb'
   obtain ⟨ja,rfl⟩:∃ j:Nat,a=(j:Int):=⟨a.toNat,by omega⟩
   have gA:=hsg.give (j:=ja) (p:=RA) (by omega) o1.1 o1.2
   have hcond:sw.2.getD i false=true∧(ndN ns (i:Int)).op≠1:=⟨hgv,by rw [hop];exact ho⟩
   by_cases ht:twoP op
   ·have hbb:=hb ht
    obtain ⟨jb,rfl⟩:∃ j:Nat,b=(j:Int):=⟨b.toNat,by omega⟩
    have eD:RB.1=(ndN ns (jb:Int)).D:=(o2 ht).2.trans (show dD ns op (jb:Int)=_ by unfold dD;rw [if_pos ht])
    have e0:swStep ns i sw=swGive (swGive sw ja RA) jb RB:=by
     unfold swStep
     rw [if_pos hcond,end_]
     simp only []
     rw [if_pos hbb.1,eg,eRA,eRB]
     rfl
    rw [e0]
    exact ⟨swGive sw ja RA,yes ja sw RA hsg (by omega) o1.1 o1.2,yes jb _ RB gA (by omega) (o2 ht).1 eD⟩
   ·have hbb:=hb' ht
    have e0:swStep ns i sw=swGive sw ja RA:=by
     unfold swStep
     rw [if_pos hcond,end_]
     simp only []
     rw [if_neg (by omega),eg,eRA]
     rfl
    rw [e0]
    exact ⟨swGive sw ja RA,yes ja sw RA hsg (by omega) o1.1 o1.2,fun W p1 q1 n1 c1 m1 e1 h hb _ _=>no b _ (by omega) W p1 q1 n1 c1 m1 e1 h hb⟩
 obtain ⟨s2,es2⟩:∃ s,swStep ns i sw=s:=⟨_,rfl⟩
 rw [es2] at cA2 ⊢
 have HS:Hid (SwC w B sb tb gb vb N sw.1 sw.2∧B≤w.heap.size):=⟨hS,hB⟩
 have HC:Hid ((w.cell? ⟨sb,0,none⟩=some (.pointer (some ⟨tb,0,none⟩)))∧w.cell? ⟨sb,1,none⟩=some (.slice (some ⟨gb,0,none⟩) N N)∧w.cell? ⟨gb,i*2,none⟩=some (.slice p n c)∧w.cell? ⟨gb,i*2+1,none⟩=some (.slice p2 n2 c2)):=⟨b0,b1,c0,c1⟩
 haveI:Nonempty World:=⟨w⟩
 clear es2 eRA eRB hg hgl eg hnd end_ hgv hgs hgu hS hB hT hTz hsg hNK hV hG f0 f1 c0 c1 eN hr hi
 go_enter Tryz.func46,Tryz.ntmps46
 go_wp2_with fail
 refine (cAt.out w (Below.refl _ _)).mono ?_
 rintro e w1 ⟨s_,t_,rfl,hs_,ht_,hB1⟩
 obtain ⟨ps,ns_,cs,rfl⟩:=hs_.form_
 obtain ⟨pt,nt,ct,rfl⟩:=ht_.form_
 clear hs_ ht_ cAt b0 b1 b2 v0 v1 kb kv
 go_wp2_with fail
 generalize hW0:World.alloc _ _=W0
 have B0_:Below w1.heap.size w1 W0:=by rw [← hW0];exact up_alloc _ _
 have XN:W0.heap[w1.heap.size]?=some (.cells #[.int .i64 op,.int .i64 a,.int .i64 b,.int .i64 k,.slice ps ns_ cs,.slice pt nt ct] 109 (0,0)):=by rw [← hW0];exact heap_alloc_new _ _
 have HB0:Hid (Below w.heap.size w W0):=bstep hB1 B0_
 obtain ⟨nb,enb⟩:∃ nb,w1.heap.size=nb:=⟨_,rfl⟩
 rw [enb] at XN ⊢
 have HX:Hid (W0.heap[nb]?=some (.cells #[.int .i64 op,.int .i64 a,.int .i64 b,.int .i64 k,.slice ps ns_ cs,.slice pt nt ct] 109 (0,0))):=XN
 clear hW0 B0_ hB1 enb
 have b0:=cell_low HC.out.1 HB0.out
 have b1:=cell_low HC.out.2.1 HB0.out
 have c0:=cell_low HC.out.2.2.1 HB0.out
 have c1:=cell_low HC.out.2.2.2 HB0.out
 obtain ⟨⟨k0,k1,k2,k3,k4,k5⟩,_⟩:=box6 XN
 have kz:=heap_lt XN
 have kb:=cell_lt b0
 have kc:=cell_lt c0
 clear XN
 refine relF [⟨12,41,TupR W0.heap.size RA RB⟩,⟨13,28,TupR W0.heap.size RA RB⟩,⟨14,42,OwnT W0.heap.size RA.1 RA.2⟩,⟨15,43,OwnT W0.heap.size RB.1 RB.2⟩,⟨17,7,NewC W0.heap.size⟩,⟨18,8,NewC W0.heap.size⟩] 19 61 (by kernel_rfl) rfl rfl [15,16] (by kernel_rfl) (by kernel_rfl) (fun i0 hi o0 ho c a w v h=>?_) (by rfl) [17,18] ?fr ?fw (by decide) ?ph ?_
 ·simp only [List.mem_cons,List.not_mem_nil,or_false] at hi
  rcases hi with rfl|rfl
  ·cases ho
   exact h
  ·cases ho
   exact h
 case fr=>
  intro k hk o ho a W
  simp only [List.mem_cons,List.not_mem_nil,or_false] at hk
  rcases hk with rfl|rfl
  ·cases ho
   exact ⟨W.alloc (.cells #[.slice none 0 0,.slice none 0 0] 64),by simp [execOp,go_sem]⟩
  ·cases ho
   exact ⟨W.alloc (.cells #[.slice none 0 0,.slice none 0 0] 64),by simp [execOp,go_sem]⟩
 case fw=>
  intro e he hk v W h b0 hb0
  simp only [List.mem_cons,List.not_mem_nil,or_false] at he hk
  have q:NewC W0.heap.size v W:=by
   rcases he with rfl|rfl|rfl|rfl|rfl|rfl
   ·simp at hk
   ·simp at hk
   ·simp at hk
   ·simp at hk
   ·exact h
   ·exact h
  obtain ⟨g,e1,e2,_⟩:=q
  rw [hb0] at e1
  cases e1
  exact heap_lt e2
 case ph=>
  intro e he v W W' h hb
  simp only [List.mem_cons,List.not_mem_nil,or_false] at he
  rcases he with rfl|rfl|rfl|rfl|rfl|rfl
  ·exact TupR.up h hb
  ·exact TupR.up h hb
  ·exact OwnT.up h hb
  ·exact OwnT.up h hb
  ·exact NewC.up h hb
  ·exact NewC.up h hb
 apply Exists.intro
 refine ⟨?yt,?yl,?wk,?pk,?rest⟩
 case wk=>
  intro x
  simp only [List.take_succ_cons,List.take_zero]
  iterate 12
   refine relQuiet rfl rfl ?_
   apply Exists.intro
   refine ⟨fun F hF hf K hK=>?_,?_⟩
   ·have hFc:=hF.cell
    have hFf:=hF.frozen
    go_big_quiet_op
    first|exact hK|(apply Exists.intro;refine ⟨fun _=>?_,?_⟩;(· fail);exact hK)
   (try simp only [Act.put,List.setIfInBounds_toArray,List.set_cons_zero,List.set_cons_succ])
  refine relTold rfl rfl ?_ ?_
  ·intro F hF hf d
   have hFc:=hF.cell
   have hFf:=hF.frozen
   simp [yieldsR,yieldsUpon,go_sem]
   refine (cGv.out (F d) _ _ _ _ _ _ (bstep HB0.out (hF.below d))).mono ?_
   rintro e' w8 ⟨v8,v9,rfl,h8,h9,hb8⟩
   exact ⟨_,rfl,⟨v8,v9,rfl,(h8.low (hF.below d).size).own,(h9.low (hF.below d).size).own⟩,hb8⟩
  (try simp only [Act.put,List.setIfInBounds_toArray,List.set_cons_zero,List.set_cons_succ])
  refine relTold rfl rfl ?_ ?_
  ·intro F hF hf d
   have hFc:=hF.cell
   have hFf:=hF.frozen
   have h9:=hf _ List.mem_cons_self (by rfl) d
   simp [yieldsR,yieldsUpon,go_sem]
   exact ⟨h9,Below.refl _ _⟩
  (try simp only [Act.put,List.setIfInBounds_toArray,List.set_cons_zero,List.set_cons_succ])
  refine relTold rfl rfl ?_ ?_
  ·intro F hF hf d
   have hFc:=hF.cell
   have hFf:=hF.frozen
   have h9:=hf _ (List.mem_cons_of_mem _ List.mem_cons_self) (by rfl) d
   obtain ⟨u9,q9,e9,o9,o8⟩:=h9
   simp only [] at e9
   simp [yieldsR,yieldsUpon,go_sem,e9]
   exact ⟨o9,Below.refl _ _⟩
  (try simp only [Act.put,List.setIfInBounds_toArray,List.set_cons_zero,List.set_cons_succ])
  refine relTold rfl rfl ?_ ?_
  ·intro F hF hf d
   have hFc:=hF.cell
   have hFf:=hF.frozen
   have h9:=hf _ (List.mem_cons_of_mem _ List.mem_cons_self) (by rfl) d
   obtain ⟨u9,q9,e9,o9,o8⟩:=h9
   simp only [] at e9
   simp [yieldsR,yieldsUpon,go_sem,e9]
   exact ⟨o8,Below.refl _ _⟩
  (try simp only [Act.put,List.setIfInBounds_toArray,List.set_cons_zero,List.set_cons_succ])
  refine relQuiet rfl rfl ?_
  apply Exists.intro
  refine ⟨fun F hF hf K hK=>?_,?_⟩
  ·have hFc:=hF.cell
   have hFf:=hF.frozen
   have h9:=hf _ (List.mem_cons_of_mem _ List.mem_cons_self) (by rfl)
   obtain ⟨u9,q9,e9,_⟩:=h9 W0
   simp only [] at e9
   go_big_quiet_op
   first|exact hK|(apply Exists.intro;refine ⟨fun _=>?_,?_⟩;(· fail);exact hK)
  iterate 2
   (try simp only [Act.put,List.setIfInBounds_toArray,List.set_cons_zero,List.set_cons_succ])
   refine relTold rfl rfl ?_ ?_
   ·intro F hF hf d
    have hFc:=hF.cell
    have hFf:=hF.frozen
    simp [yieldsR,yieldsUpon,go_sem]
    exact ⟨⟨(F d).heap.size,rfl,by show ((F d).heap.push _)[(F d).heap.size]?=_;simp,(hF.below d).size⟩,up_alloc _ _⟩
  (try simp only [Act.put,List.setIfInBounds_toArray,List.set_cons_zero,List.set_cons_succ])
  refine relEnd ?_
  exact rfl
 case pk=>
  intro x
  simp only [putsK,List.foldl_cons,List.foldl_nil,Act.put,List.setIfInBounds_toArray,List.set_cons_zero,List.set_cons_succ]
 case yt=>
  intro i0 hi o0 ho e he W x hx
  simp only [List.mem_cons,List.not_mem_nil,or_false] at hi
  rcases hi with rfl|rfl
  ·cases ho
   have he':(⟨15,43,OwnT W0.heap.size RB.1 RB.2⟩:Told)=e:=Option.some.inj he
   subst he'
   obtain ⟨u9,q9,e9,n9,o9⟩:=hx _ (List.mem_cons_of_mem _ List.mem_cons_self) (by rfl)
   simp only [] at e9
   refine ⟨q9,o9,.inl ⟨by rfl,fun w=>?_⟩⟩
   simp [execOp,Act.eval,e9,go_sem]
  ·cases he
 case yl=>
  intro i0 hi o0 ho hn x hx
  simp only [List.mem_cons,List.not_mem_nil,or_false] at hi
  rcases hi with rfl|rfl
  ·cases hn
  ·cases ho
   obtain ⟨W9,u9,q9,e9,_⟩:=hx _ (List.mem_cons_of_mem _ List.mem_cons_self) (by rfl)
   simp only [] at e9
   refine ⟨.int .i64 0,fun t ht=>?_,.inl ⟨by rfl,fun w=>?_⟩⟩
   ·cases ht
    rfl
   ·simp [execOp,Act.eval,e9,go_sem]
 intro z1 xs hBz1 hf hap
 simp only [List.drop_succ_cons,List.drop_zero]
 have hne:xs 17≠xs 18:=hap _ _ (List.mem_cons_of_mem _ (List.mem_cons_of_mem _ (List.mem_cons_of_mem _ (List.mem_cons_of_mem _ List.mem_cons_self)))) (List.mem_cons_of_mem _ (List.mem_cons_of_mem _ (List.mem_cons_of_mem _ (List.mem_cons_of_mem _ (List.mem_cons_of_mem _ List.mem_cons_self))))) (by simp) (by simp) (by simp)
 obtain ⟨pa,na,ca,pb,nb',cb,ev,o1,o2⟩:=hf _ (List.mem_cons_of_mem _ (List.mem_cons_of_mem _ List.mem_cons_self))
 obtain ⟨pc,nc,cc,pd,nd,cd,ew,o3,o4⟩:=hf _ (List.mem_cons_of_mem _ (List.mem_cons_of_mem _ (List.mem_cons_of_mem _ List.mem_cons_self)))
 obtain ⟨g7,eb,hb1,hb2⟩:=hf _ (List.mem_cons_of_mem _ (List.mem_cons_of_mem _ (List.mem_cons_of_mem _ (List.mem_cons_of_mem _ List.mem_cons_self))))
 obtain ⟨g8,eb8,hb3,hb4⟩:=hf _ (List.mem_cons_of_mem _ (List.mem_cons_of_mem _ (List.mem_cons_of_mem _ (List.mem_cons_of_mem _ (List.mem_cons_of_mem _ List.mem_cons_self)))))
 simp only [] at ev ew eb eb8
 rw [eb,eb8] at hne
 have h78:g7≠g8:=fun e=>hne (by rw [e])
 obtain ⟨x12,e12⟩:∃ q,xs 12=q:=⟨_,rfl⟩
 obtain ⟨x13,e13⟩:∃ q,xs 13=q:=⟨_,rfl⟩
 simp only [ev,ew,eb,eb8,e12,e13]
 have hS1:Below W0.heap.size W0 (set2 (set2 z1 g7 (.slice pa na ca) (.slice pb nb' cb)) g8 (.slice pc nc cc) (.slice pd nd cd)):=below_set2 (below_set2 hBz1 g7 hb2 _ _) g8 hb4 _ _
 have hn1:z1.heap[nb]?=some (.cells #[.int .i64 op,.int .i64 a,.int .i64 b,.int .i64 k,.slice ps ns_ cs,.slice pt nt ct] 109 (0,0)):=(hBz1.block _ (heap_lt HX.out)).trans HX.out
 have hnl:=heap_lt HX.out
 have hn7:nb≠g7:=by omega
 have hn8:nb≠g8:=by omega
 have f1:=o1.off_type hb1 (by decide)
 have f2:=o2.off_type hb1 (by decide)
 have f3:=o3.off_type hb1 (by decide)
 have f4:=o4.off_type hb1 (by decide)
 have f5:=o1.off_type hb3 (by decide)
 have f6:=o2.off_type hb3 (by decide)
 have f7:=o3.off_type hb3 (by decide)
 have f8:=o4.off_type hb3 (by decide)
 have t1:=Stay.set2 (g:=g7) z1 (.slice pa na ca) (.slice pb nb' cb)
 have t2:=Stay.set2 (g:=g8) (set2 z1 g7 (.slice pa na ca) (.slice pb nb' cb)) (.slice pc nc cc) (.slice pd nd cd)
 have y7:Cel (set2 (set2 z1 g7 (.slice pa na ca) (.slice pb nb' cb)) g8 (.slice pc nc cc) (.slice pd nd cd)) g7 (.slice pa na ca) (.slice pb nb' cb):=((new_cel hb1).set _ _).stay t2 h78
 have y8:Cel (set2 (set2 z1 g7 (.slice pa na ca) (.slice pb nb' cb)) g8 (.slice pc nc cc) (.slice pd nd cd)) g8 (.slice pc nc cc) (.slice pd nd cd):=((new_cel hb3).stay t1 (Ne.symm h78)).set _ _
 have HU:Hid ((Cel (set2 (set2 z1 g7 (.slice pa na ca) (.slice pb nb' cb)) g8 (.slice pc nc cc) (.slice pd nd cd)) g7 (.slice pa na ca) (.slice pb nb' cb)∧Cel (set2 (set2 z1 g7 (.slice pa na ca) (.slice pb nb' cb)) g8 (.slice pc nc cc) (.slice pd nd cd)) g8 (.slice pc nc cc) (.slice pd nd cd))∧(OwnK .i64 3 (set2 (set2 z1 g7 (.slice pa na ca) (.slice pb nb' cb)) g8 (.slice pc nc cc) (.slice pd nd cd)) W0.heap.size (.slice pa na ca) RA.1∧OwnK .i64 23 (set2 (set2 z1 g7 (.slice pa na ca) (.slice pb nb' cb)) g8 (.slice pc nc cc) (.slice pd nd cd)) W0.heap.size (.slice pb nb' cb) RA.2∧OwnK .i64 3 (set2 (set2 z1 g7 (.slice pa na ca) (.slice pb nb' cb)) g8 (.slice pc nc cc) (.slice pd nd cd)) W0.heap.size (.slice pc nc cc) RB.1∧OwnK .i64 23 (set2 (set2 z1 g7 (.slice pa na ca) (.slice pb nb' cb)) g8 (.slice pc nc cc) (.slice pd nd cd)) W0.heap.size (.slice pd nd cd) RB.2)∧Below W0.heap.size W0 (set2 (set2 z1 g7 (.slice pa na ca) (.slice pb nb' cb)) g8 (.slice pc nc cc) (.slice pd nd cd))∧W0.heap.size≤g8):=⟨⟨y7,y8⟩,⟨(o1.stay t1 f1).stay t2 f5,(o2.stay t1 f2).stay t2 f6,(o3.stay t1 f3).stay t2 f7,(o4.stay t1 f4).stay t2 f8⟩,hS1,hb4⟩
 obtain ⟨r0,r1,r2,r3⟩:=new_cel hb1
 obtain ⟨r4,r5,r6,r7⟩:=new_cel hb3
 have z7:=cell_lt r0
 have z8:=cell_lt r4
 have h87:g8≠g7:=Ne.symm h78
 clear f1 f2 f3 f4 f5 f6 f7 f8 o1 o2 o3 o4 t1 t2 y7 y8 hS1 hb1 hb2 hb3 hb4 hf hap hne ev ew eb eb8 e12 e13 hBz1 cGv b0 b1 c0 c1 k0 k1 k2 k3 k4 k5 kb kc
 obtain ⟨U,eU⟩:∃ U,(set2 (set2 z1 g7 (.slice pa na ca) (.slice pb nb' cb)) g8 (.slice pc nc cc) (.slice pd nd cd))=U:=⟨_,rfl⟩
 have HK:Hid (U.heap[nb]?=some (.cells #[.int .i64 op,.int .i64 a,.int .i64 b,.int .i64 k,.slice ps ns_ cs,.slice pt nt ct] 109 (0,0))):=by
  show _=_
  rw [← eU,HU.out.2.2.1.block _ (heap_lt HX.out)]
  exact HX.out
 obtain ⟨⟨k0,k1,k2,k3,k4,k5⟩,_⟩:=box6 HK.out
 have kn:=heap_lt HK.out
 rw [eU] at HU
 obtain ⟨q0,q1,_,_⟩:=HU.out.1.1
 have kq:=cell_lt q0
 clear hn1
 go_wp2_with fail
 clear eU k0 k1 k2 k3 k4 k5 kn q0 q1 kq r0 r1 r2 r3 r4 r5 r6 r7 z7 z8
 have HBU:Hid (Below w.heap.size w U):=bstep HB0.out HU.out.2.2.1
 have hBU:B≤U.heap.size:=Nat.le_trans HS.out.2 HBU.out.size
 refine (cA1.out U _ _ _ _ _ _ (HS.out.1.up HBU.out) hBU HU.out.2.1.1.nums HU.out.2.1.2.1.nums).mono ?_
 rintro e w3 ⟨rfl,hS3,hB3,hW3⟩
 obtain ⟨xsU,hxU,_⟩:=(HS.out.1.up HBU.out).hg
 have hvU:=(HS.out.1.up HBU.out).hv
 have oU:=hW3.only hxU hvU
 have hg8:g8 < U.heap.size:=cell_lt HU.out.1.2.1
 have hgb:gb < W0.heap.size:=by
  obtain ⟨xs0,hx0,_⟩:=(HS.out.1.up HB0.out).hg
  exact heap_lt hx0
 have hvb:vb < W0.heap.size:=heap_lt (HS.out.1.up HB0.out).hv
 have h8l:=HU.out.2.2.2
 have e8:w3.heap[g8]?=U.heap[g8]?:=hW3.2 g8 hg8 (by omega) (by omega)
 have b8:Below (U.heap.size) U U:=Below.refl _ _
 have HS3:Hid ((SwC w3 B sb tb gb vb N s1.1 s1.2∧B≤w3.heap.size)∧(Nums .i64 w3 (.slice pc nc cc) RB.1∧Nums .i64 w3 (.slice pd nd cd) RB.2)∧Below B w w3):=⟨⟨hS3,Nat.le_trans hBU hW3.1⟩,⟨(HU.out.2.1.2.2.1.only oU (by decide)).nums,(HU.out.2.1.2.2.2.only oU (by decide)).nums⟩,(HBU.out.mono HS.out.2).trans hB3⟩
 obtain ⟨⟨k0,k1,k2,k3,k4,k5⟩,_⟩:=box6 (oU.keep HK.out (by decide))
 have kn:=heap_lt (oU.keep HK.out (by decide))
 have same8:∀ o v,U.cell? ⟨g8,o,none⟩=some v→w3.cell? ⟨g8,o,none⟩=some v:=fun o v h=>by
  unfold World.cell? at h ⊢
  rw [show w3.heap[(⟨g8,o,none⟩:Addr).block]?=U.heap[(⟨g8,o,none⟩:Addr).block]? from e8]
  exact h
 have r4:=same8 0 _ HU.out.1.2.1
 have r5:=same8 1 _ HU.out.1.2.2.1
 have z8:=cell_lt r4
 clear same8 e8 b8 hvb hgb hg8 oU hvU hxU hS3 hB3 hW3 cA1 HU HBU h8l
 go_wp2_with fail
 refine (cA2.out w3 _ _ _ _ _ _ HS3.out.1.1 HS3.out.1.2 HS3.out.2.1.1 HS3.out.2.1.2).mono ?_
 rintro e w4 ⟨rfl,hS4,hB4,_⟩
 have HF:Hid (SwC w4 B sb tb gb vb N s2.1 s2.2∧Below B w w4):=⟨hS4,HS3.out.2.2.trans hB4⟩
 clear hS4 hB4 HS3 k0 k1 k2 k3 k4 k5 kn r4 r5 z8 cA2
 go_wp2
 exact bodyPost_ret (v:=.int .i64 0) (by simp [results,Tryz.results46,go_sem]) rfl ⟨rfl,HF.out⟩
/-- A row that was just made: all its cells are one value. -/
theorem mk_cells {z:Array Value} {v:Value} (hz:0 < z.size) (h:∀ i,i < z.size→z[i]?=some v) (n:Nat):madeCells z n=(List.replicate n v).toArray:=by
 apply Array.toList_inj.1
 refine List.ext_getElem? fun j=>?_
 by_cases hj:j < n
 ·have e:=h (j % z.size) (Nat.mod_lt _ hz)
  unfold madeCells
  show _=(List.replicate n v)[j]?
  rw [Array.getElem?_toList,Array.getElem?_map,Array.getElem?_range,if_pos hj,List.getElem?_replicate,if_pos hj]
  simp only [Option.map_some]
  rw [getElem!_def,e]
 ·rw [List.getElem?_eq_none (by rw [Array.length_toList,size_madeCells];omega),List.getElem?_eq_none (by simp;omega)]
theorem mk_run {P:Program} {t e:TypeId} {z v:Value} {sz b:Nat} (ht:P.underlying t=some (.slice e)) (hi:(P.info? e).map (fun i=>(i.zero,i.size,i.bytes))=some (some z,sz,b)) (hb:b≤128) (hz:0 < z.cells.size) (h:∀ i,i < z.cells.size→z.cells[i]?=some v) (n:Nat) (hn:n≤100000) (W:World):
  (Instr.makeSlice t (.int .i64 (n:Int)) (.int .i64 (n:Int))).run P W = .ok (.slice (some ⟨W.heap.size,0,none⟩) n n) (W.alloc (.cells (List.replicate (n*sz) v).toArray e)):=by
 cases h0:P.info? e with
 | none=>rw [h0] at hi;cases hi
 | some i=>
  rw [h0] at hi
  simp only [Option.map_some,Option.some.injEq,Prod.mk.injEq] at hi
  obtain ⟨h1,h2,h3⟩:=hi
  have hm:b*n≤128*100000:=Nat.mul_le_mul hb hn
  have hb':(i.bytes:Int)*(n:Int)≤281474976710656:=by
   have q:((i.bytes*n:Nat):Int)≤281474976710656:=by rw [h3];omega
   rwa [Int.natCast_mul] at q
  have hr:=run_make (P:=P) W t e i z ht h0 h1 .i64 .i64 n n (by omega) (Int.le_refl _) hb' (by omega)
  simp only [Int.toNat_natCast] at hr
  rw [hr,h2,mk_cells hz h]
def MadeC (e:TypeId) (N K:Nat) (c:Value) (B:Nat) (v:Value) (W:World):Prop:=∃ b,v = .slice (some ⟨b,0,none⟩) N N∧W.heap[b]?=some (.cells (List.replicate K c).toArray e (0,0))∧B≤b
theorem MadeC.up {e:TypeId} {N K:Nat} {c:Value} {B:Nat} {v:Value} {W W':World} (h:MadeC e N K c B v W) (hB:Below W.heap.size W W'):MadeC e N K c B v W':=by
 obtain ⟨b,h1,h2,h3⟩:=h
 exact ⟨b,h1,(hB.block _ (heap_lt h2)).trans h2,h3⟩
/-- Noughts so far, nothing behind. -/
def nou (ns:List Nd) (i:Nat):Ten:=((ndN ns (i:Int)).D,List.replicate (ndN ns (i:Int)).X.length (0:Int))
def stK (ns:List Nd) (N k:Nat):List Ten:=(List.range N).map fun i=>if i < k then nou ns i else noT
theorem stK_len (ns:List Nd) (N k:Nat):(stK ns N k).length=N:=by simp [stK]
theorem stK_set (ns:List Nd) (N k:Nat) (hk:k < N):(stK ns N k).set k (nou ns k)=stK ns N (k+1):=by
 refine List.ext_getElem? fun j=>?_
 rw [List.getElem?_set]
 unfold stK
 by_cases hj:j < N
 ·simp only [List.getElem?_map,List.getElem?_range hj,Option.map_some,List.length_map,List.length_range]
  by_cases e:k=j
  ·subst e
   rw [if_pos rfl,if_pos hk,if_pos (by omega)]
  ·rw [if_neg e]
   by_cases h:j < k
   ·rw [if_pos h,if_pos (by omega)]
   ·rw [if_neg h,if_neg (by omega)]
 ·rw [if_neg (by omega),List.getElem?_eq_none (by simp;omega),List.getElem?_eq_none (by simp;omega)]
theorem stK_full (ns:List Nd) (root:Nat):stK ns (root+1) (root+1)=(List.range (root+1)).map (nou ns):=by
 unfold stK
 refine List.map_congr_left fun i hi=>?_
 rw [if_pos (List.mem_range.1 hi)]
theorem stK_at (ns:List Nd) (N k i:Nat) (hi:i < N) (hk:i < k):(stK ns N k)[i]?=some (nou ns i):=by
 unfold stK
 rw [List.getElem?_map,List.getElem?_range hi,Option.map_some,if_pos hk]
theorem SwC.fresh {W:World} {B sb tb gb vb N:Nat} (ns:List Nd) (hs:W.heap[sb]?=some (.cells #[.pointer (some ⟨tb,0,none⟩),.slice (some ⟨gb,0,none⟩) N N,.slice (some ⟨vb,0,none⟩) N N] 107 (0,0))) (hg:W.heap[gb]?=some (.cells (List.replicate (N*2) (.slice none 0 0)).toArray 64 (0,0))) (hv:W.heap[vb]?=some (.cells (List.replicate N (.bool false)).toArray 4 (0,0))) (bs:B≤sb∧B≤gb∧B≤vb):SwC W B sb tb gb vb N (stK ns N 0) (List.replicate N false):=by
 refine ⟨hs,⟨_,hg,by simp [stK],fun i t hi=>?_⟩,by rw [hv];simp,bs,stK_len _ _ _,by simp⟩
 have hiN:i < N:=by have:=(List.getElem?_eq_some_iff.1 hi).1;rw [stK_len] at this;exact this
 have et:t=noT:=by
  unfold stK at hi
  rw [List.getElem?_map,List.getElem?_range hiN] at hi
  simpa using hi.symm
 subst et
 exact ⟨_,_,by rw [List.getElem?_replicate,if_pos (by omega)],by rw [List.getElem?_replicate,if_pos (by omega)],OwnK.nil _ _ _ _,OwnK.nil _ _ _ _⟩
/-- The newest gradient's numbers lie in a block of their own. -/
def Lone (W:World) (gb k:Nat):Prop:=∀ i u v,i+1 < k→W.cell? ⟨gb,i*2+1,none⟩=some u→W.cell? ⟨gb,(k - 1)*2+1,none⟩=some v→∀ b,v.ownBlock=some b→u.ownBlock≠some b
/-- One for the root. -/
theorem SwC.one {W:World} {B sb tb gb vb root:Nat} {ns:List Nd} {gv:List Bool} (h:SwC W B sb tb gb vb (root+1) (stK ns (root+1) (root+1)) gv) (hl:Lone W gb (root+1)) (h1:(ndN ns (root:Int)).X.length=1):
  ∃ q c,W.cell? ⟨gb,root*2+1,none⟩=some (.slice (some ⟨q,0,none⟩) 1 c)∧(∃ v,W.cell? ⟨q,0,none⟩=some v)∧W.frozen? ⟨q,0,none⟩=false∧B≤q∧SwC (W.setCell ⟨q,0,none⟩ (.int .i64 4294967296)) B sb tb gb vb (root+1) ((stK ns (root+1) (root+1)).set root ((ndN ns (root:Int)).D,[4294967296])) gv:=by
 obtain ⟨xs,hx,hk⟩:=h.hg
 obtain ⟨s,u,a1,a2,a3,a4⟩:=hk.2 root _ (stK_at ns (root+1) (root+1) root (by omega) (by omega))
 have e1:(nou ns root).2 = [0]:=by unfold nou;rw [h1];rfl
 rw [e1] at a4
 obtain ⟨q,c,rfl,hq⟩:=a4.at (by simp)
 have hc:=box_cell (i:=root*2+1) hx (by simpa using a2)
 obtain ⟨c1,c2⟩:=a4.cell rfl 0 (by simp)
 obtain ⟨cs,fz,hob⟩:=a4.obj
 have hfz:fz=(0,0):=by
  rcases a4.2 with ⟨hh,_⟩|⟨g',cap,cur,hh,_,h3,_⟩
  ·cases hh
  ·cases hh
   rw [hob] at h3
   cases h3
   rfl
 subst hfz
 have st:Stay q W (W.setCell ⟨q,0,none⟩ (.int .i64 4294967296)):=(Stay.refl q W).set 0 _
 refine ⟨q,c,hc.1,⟨_,c1⟩,c2,hq,?_⟩
 have nq:∀ {b:Nat} {cs:Array Value} {e:TypeId},W.heap[b]?=some (Obj.cells cs e (0,0))→e≠23→(W.setCell ⟨q,0,none⟩ (.int .i64 4294967296)).heap[b]?=W.heap[b]?:=fun hb he=>heap_set _ _ _ _ _ (kind_ne hb hob he)
 refine ⟨(nq h.hs (by decide)).trans h.hs,⟨xs,(nq hx (by decide)).trans hx,by simp [hk.1],fun i t hi=>?_⟩,(nq h.hv (by decide)).trans h.hv,h.bs,by rw [List.length_set];exact h.ll,h.lv⟩
 rw [List.getElem?_set] at hi
 by_cases e:root=i
 ·subst e
  rw [if_pos rfl,if_pos (by rw [stK_len];omega)] at hi
  cases hi
  refine ⟨s,_,a1,a2,a3.stay st (a3.off_type hob (by decide)),?_⟩
  exact a4.store rfl 0 4294967296
 ·rw [if_neg e] at hi
  obtain ⟨s',u',b1,b2,b3,b4⟩:=hk.2 i t hi
  have hiN:i < root+1:=by have:=(List.getElem?_eq_some_iff.1 hi).1;rw [stK_len] at this;exact this
  refine ⟨s',u',b1,b2,b3.stay st (b3.off_type hob (by decide)),b4.stay st ?_⟩
  intro ad n' c' eu hbq
  subst eu
  have:=hl i _ _ (by omega) (box_cell (i:=i*2+1) hx (by simpa using b2)).1 (by simpa using hc.1) q rfl
  rcases b4.2 with ⟨hh,_⟩|⟨g',cap,cur,hh,_⟩
  ·cases hh
  ·cases hh
   simp only [] at hbq
   subst hbq
   exact this rfl
theorem sw0_eq (ns:List Nd) (root:Nat):(sw0 ns root).1=(stK ns (root+1) (root+1)).set root ((ndN ns (root:Int)).D,[4294967296])∧(sw0 ns root).2=(List.replicate (root+1) false).set root true:=by
 rw [stK_full]
 exact ⟨rfl,rfl⟩
theorem cstart_any (B0 tb:Nat) (ns:List Nd) (hG:NodesG ns) (root:Nat) (hr:root < ns.length) (hl:ns.length≤512) (h1:(ndN ns (root:Int)).X.length=1) (w:World) (hT:TapC w B0 tb ns):
  Calls Tryz.prog 45 #[.pointer (some ⟨tb,0,none⟩),.int .i64 (root:Int)] w fun e w'=>∃ sb gb vb,e = .returned (.tuple #[.pointer (some ⟨sb,0,none⟩),.int .i64 0])∧SwC w' w.heap.size sb tb gb vb (root+1) (sw0 ns root).1 (sw0 ns root).2∧Below w.heap.size w w':=by
 have eN:((root:Int)+1)=((root+1:Nat):Int):=by omega
 obtain ⟨N,hN⟩:∃ N,root+1=N:=⟨_,rfl⟩
 rw [hN] at eN
 have hN5:N≤512:=by omega
 have hN5':(N:Int)≤512:=by omega
 have hm1:∀ W,(Instr.makeSlice 60 (.int .i64 (N:Int)) (.int .i64 (N:Int))).run Tryz.prog W = .ok (.slice (some ⟨W.heap.size,0,none⟩) N N) (W.alloc (.cells (List.replicate (N*2) (.slice none 0 0)).toArray 64)):=fun W=>mk_run (z:=.agg #[.slice none 0 0,.slice none 0 0]) (b:=48) Tryz.underlying60 (by kernel_rfl) (by decide) (by decide) (fun i hi=>by
  have hi2:i < 2:=hi
  match i,hi2 with
  | 0,_=>rfl
  | 1,_=>rfl) N (by omega) W
 have hm2:∀ W,(Instr.makeSlice 105 (.int .i64 (N:Int)) (.int .i64 (N:Int))).run Tryz.prog W = .ok (.slice (some ⟨W.heap.size,0,none⟩) N N) (W.alloc (.cells (List.replicate N (.bool false)).toArray 4)):=fun W=>by
  have:=mk_run (P:=Tryz.prog) (z:=.bool false) (v:=.bool false) (sz:=1) (b:=1) Tryz.underlying105 (by kernel_rfl) (by decide) (by decide) (fun i hi=>by
   have hi2:i < 1:=hi
   match i,hi2 with
   | 0,_=>rfl) N (by omega) W
  rw [Nat.mul_one] at this
  exact this
 have cV:Hid (∀ (i:Nat) W,i < N→Below w.heap.size w W→Calls Tryz.prog 25 #[.pointer (some ⟨tb,0,none⟩),.int .i64 (i:Int)] W fun e w'=>∃ v,e = .returned (.tuple #[v,.bool true])∧TRes w' W.heap.size v (ndN ns (i:Int)).D (ndN ns (i:Int)).X∧Below W.heap.size W w'):=fun i W hi hW=>cvalue_any B0 tb ns hG i _ (ndN_get (by omega)) W (hT.up hW)
 have cN:Hid (∀ (i:Nat) W v,i < N→Nums .i64 W v (ndN ns (i:Int)).D→Calls Tryz.prog 67 #[v,.int .i64 0] W fun e w'=>∃ v',e = .returned (.tuple #[v',.int .i64 0])∧TRes w' W.heap.size v' (nou ns i).1 (nou ns i).2∧Below W.heap.size W w'):=fun i W v hi hn=>by
  have gi:TnsG (ndN ns (i:Int)).D (ndN ns (i:Int)).X:=hG _ (nd_mem (ndN_get (by omega)))
  have:=tnew_any v _ gi.2.1 0 W hn
  rw [show newE (ndN ns (i:Int)).D=0 from if_pos gi.1.1,show newD (ndN ns (i:Int)).D=(nou ns i).1 from if_pos gi.1.1,show newV (ndN ns (i:Int)).D 0=(nou ns i).2 from (if_pos gi.1.1).trans (by unfold nou;rw [gi.1.2])] at this
  exact this
 have H1:Hid ((ndN ns (root:Int)).X.length=1∧root+1=N):=⟨h1,hN⟩
 have e0:=sw0_eq ns root
 rw [e0.1,e0.2,hN]
 have hrN:root < N:=by omega
 have hrN':(root:Int) < (N:Int):=by omega
 haveI:Nonempty World:=⟨w⟩
 clear e0 h1 hT hG hr hl hN
 go_enter Tryz.func45,Tryz.ntmps45
 go_wp2_with fail
 refine rel [⟨3,15,MadeC 64 N (N*2) (.slice none 0 0) w.heap.size⟩,⟨6,18,MadeC 4 N N (.bool false) w.heap.size⟩] 7 68 (by kernel_rfl) rfl rfl (by kernel_rfl) (by rfl) ?_ ?_
 ·intro e he v W W' h hb
  simp only [List.mem_cons,List.not_mem_nil,or_false] at he
  rcases he with rfl|rfl
  ·exact MadeC.up h hb
  ·exact MadeC.up h hb
 apply Exists.intro
 refine ⟨fun x=>?_,?_,?_⟩
 ·simp only [List.take_succ_cons,List.take_zero]
  iterate 3
   refine relQuiet rfl rfl ?_
   apply Exists.intro
   refine ⟨fun F hF hf K hK=>?_,?_⟩
   ·have hFc:=hF.cell
    have hFf:=hF.frozen
    go_big_quiet_op
    first|exact hK|(apply Exists.intro;refine ⟨fun _=>?_,?_⟩;(· fail);exact hK)
   (try simp only [Act.put,List.setIfInBounds_toArray,List.set_cons_zero,List.set_cons_succ])
  refine relTold rfl rfl ?_ ?_
  ·intro F hF hf d
   have hFc:=hF.cell
   have hFf:=hF.frozen
   simp [yieldsR,yieldsUpon,go_sem,hm1]
   exact ⟨⟨(F d).heap.size,rfl,heap_alloc_new _ _,(hF.below d).size⟩,up_alloc _ _⟩
  iterate 2
   (try simp only [Act.put,List.setIfInBounds_toArray,List.set_cons_zero,List.set_cons_succ])
   refine relQuiet rfl rfl ?_
   apply Exists.intro
   refine ⟨fun F hF hf K hK=>?_,?_⟩
   ·have hFc:=hF.cell
    have hFf:=hF.frozen
    go_big_quiet_op
    first|exact hK|(apply Exists.intro;refine ⟨fun _=>?_,?_⟩;(· fail);exact hK)
  (try simp only [Act.put,List.setIfInBounds_toArray,List.set_cons_zero,List.set_cons_succ])
  refine relTold rfl rfl ?_ ?_
  ·intro F hF hf d
   have hFc:=hF.cell
   have hFf:=hF.frozen
   simp [yieldsR,yieldsUpon,go_sem,hm2]
   exact ⟨⟨(F d).heap.size,rfl,heap_alloc_new _ _,(hF.below d).size⟩,up_alloc _ _⟩
  (try simp only [Act.put,List.setIfInBounds_toArray,List.set_cons_zero,List.set_cons_succ])
  refine relEnd ?_
  exact rfl
 ·intro x
  simp only [putsK,List.foldl_cons,List.foldl_nil,Act.put,List.setIfInBounds_toArray,List.set_cons_zero,List.set_cons_succ]
 intro z1 xs hBz hf
 simp only [List.drop_succ_cons,List.drop_zero]
 obtain ⟨gb,ea,hga,hgb⟩:=hf _ List.mem_cons_self
 obtain ⟨vb,eb,hva,hvb⟩:=hf _ (List.mem_cons_of_mem _ List.mem_cons_self)
 simp only [] at ea eb
 simp only [ea,eb]
 have HG0:Hid ((z1.heap[gb]?=some (.cells (List.replicate (N*2) (.slice none 0 0)).toArray 64 (0,0))∧z1.heap[vb]?=some (.cells (List.replicate N (.bool false)).toArray 4 (0,0)))∧w.heap.size≤gb∧w.heap.size≤vb∧Below w.heap.size w z1):=⟨⟨hga,hva⟩,hgb,hvb,hBz⟩
 clear hf ea eb hga hva hgb hvb hBz hm1 hm2
 go_wp2_with fail
 generalize hW0:World.alloc _ _=W0
 obtain ⟨sb,esb⟩:∃ b,z1.heap.size=b:=⟨_,rfl⟩
 have hsb:W0.heap[z1.heap.size]?=some (.cells #[.pointer (some ⟨tb,0,none⟩),.slice (some ⟨gb,0,none⟩) N N,.slice (some ⟨vb,0,none⟩) N N] 107 (0,0)):=by rw [← hW0];exact heap_alloc_new _ _
 have B0_:Below z1.heap.size z1 W0:=by rw [← hW0];exact up_alloc _ _
 have HS0:Hid (SwC W0 w.heap.size sb tb gb vb N (stK ns N 0) (List.replicate N false)):=by
  rw [esb] at hsb
  have q:=HG0.out
  exact SwC.fresh ns hsb ((B0_.block _ (heap_lt q.1.1)).trans q.1.1) ((B0_.block _ (heap_lt q.1.2)).trans q.1.2) ⟨by rw [← esb];exact q.2.2.2.size,q.2.1,q.2.2.1⟩
 have HB0:Hid (Below w.heap.size w W0):=bstep HG0.out.2.2.2 B0_
 rw [esb]
 clear hW0 hsb B0_ HG0 esb
 go_loopg [26] N (fun gg i wr=>∃ (k:Nat),k≤N∧gg=N - k∧i = .int .i64 (k:Int)∧Hid (SwC wr w.heap.size sb tb gb vb N (stK ns N k) (List.replicate N false))∧Hid (Below w.heap.size w wr∧Lone wr gb k))
 case atStart=>exact ⟨0,by omega,by omega,by first|rfl|simp,HS0.out,HB0.out,fun i u v hi=>absurd hi (by omega)⟩
 case round=>
  obtain ⟨k,hk,hgk,rfl,HS,HBk⟩:=hrel
  obtain ⟨R1,hR1⟩:∃ R1:World,R1=wr:=⟨_,rfl⟩
  subst hR1
  by_cases hkn:k < N
  ·have hk':(k:Int) < (N:Int):=by omega
   go_wp2_with fail
   refine (cV.out k R1 hkn HBk.out.1).mono ?_
   rintro e w1 ⟨v1,rfl,⟨s1,t1,rfl,hs1,ht1⟩,hB1⟩
   obtain ⟨p1,n1,c1,rfl⟩:=hs1.form_
   obtain ⟨q1,m1,e1,rfl⟩:=ht1.form_
   have HN1:Hid (Nums .i64 w1 (.slice p1 n1 c1) (ndN ns (k:Int)).D∧Below R1.heap.size R1 w1):=⟨hs1.nums,hB1⟩
   clear hs1 ht1 hB1
   go_wp2_with fail
   generalize hW2:World.alloc _ _=W2
   have B2:Below w1.heap.size w1 W2:=by rw [← hW2];exact up_alloc _ _
   have HB2:Hid (Below R1.heap.size R1 W2):=bstep HN1.out.2 B2
   have HN2:Hid (Nums .i64 W2 (.slice p1 n1 c1) (ndN ns (k:Int)).D):=HN1.out.1.up B2
   clear hW2 B2 HN1
   refine (cN.out k W2 _ hkn HN2.out).mono ?_
   rintro e w3 ⟨v3,rfl,⟨s3,t3,rfl,hs3,ht3⟩,hB3⟩
   obtain ⟨p3,n3,c3,rfl⟩:=hs3.form_
   obtain ⟨q3,m3,e3,rfl⟩:=ht3.form_
   have hbl:∀ j,(Value.slice q3 m3 e3).ownBlock=some j→R1.heap.size≤j:=fun j hj=>Nat.le_trans HB2.out.size (ht3.block j hj)
   have HB3:Hid (Below R1.heap.size R1 w3):=bstep HB2.out hB3
   have HR3:Hid (OwnK .i64 3 w3 R1.heap.size (.slice p3 n3 c3) (nou ns k).1∧OwnK .i64 23 w3 R1.heap.size (.slice q3 m3 e3) (nou ns k).2∧∀ j,(Value.slice q3 m3 e3).ownBlock=some j→R1.heap.size≤j):=⟨hs3.low HB2.out.size,ht3.low HB2.out.size,hbl⟩
   clear hs3 ht3 hB3 HB2 HN2 hbl
   go_wp2_with fail
   generalize hW4:World.alloc _ _=W4
   have B4:Below w3.heap.size w3 W4:=by rw [← hW4];exact up_alloc _ _
   have X4:Cel W4 w3.heap.size (.slice p3 n3 c3) (.slice q3 m3 e3):=(celW hW4 (by simp [go_sem])).out
   have HB4:Hid (Below R1.heap.size R1 W4):=bstep HB3.out B4
   have HR4:Hid (OwnK .i64 3 W4 R1.heap.size (.slice p3 n3 c3) (nou ns k).1∧OwnK .i64 23 W4 R1.heap.size (.slice q3 m3 e3) (nou ns k).2∧∀ j,(Value.slice q3 m3 e3).ownBlock=some j→R1.heap.size≤j):=⟨HR3.out.1.up B4,HR3.out.2.1.up B4,HR3.out.2.2⟩
   have hS4:=HS.out.up HB4.out
   obtain ⟨b0,b1,b2⟩:=hS4.tape
   obtain ⟨xs9,hx9,hk9⟩:=hS4.hg
   have hl9:=hk9.1
   have hN9:=hS4.ll
   obtain ⟨va,i0,i1⟩:∃ va,W4.cell? ⟨gb,k*2,none⟩=some va∧W4.frozen? ⟨gb,k*2,none⟩=false:=⟨_,box_cell hx9 (by rw [List.getElem?_toArray];exact List.getElem?_eq_getElem (by omega))⟩
   obtain ⟨vc,i2,i3⟩:∃ va,W4.cell? ⟨gb,k*2+1,none⟩=some va∧W4.frozen? ⟨gb,k*2+1,none⟩=false:=⟨_,box_cell hx9 (by rw [List.getElem?_toArray];exact List.getElem?_eq_getElem (by omega))⟩
   have kb:=cell_lt b1
   have kg:=cell_lt i0
   obtain ⟨y0,y1,_,_⟩:=X4
   have ky:=cell_lt y0
   have hbb:=hS4.bs
   have hwR:w.heap.size≤R1.heap.size:=HBk.out.1.size
   have HZ:Hid (SwC ((W4.setCell ⟨gb,k*2,none⟩ (.slice p3 n3 c3)).setCell ⟨gb,k*2+1,none⟩ (.slice q3 m3 e3)) w.heap.size sb tb gb vb N (stK ns N (k+1)) (List.replicate N false)∧Below w.heap.size w ((W4.setCell ⟨gb,k*2,none⟩ (.slice p3 n3 c3)).setCell ⟨gb,k*2+1,none⟩ (.slice q3 m3 e3))∧Lone ((W4.setCell ⟨gb,k*2,none⟩ (.slice p3 n3 c3)).setCell ⟨gb,k*2+1,none⟩ (.slice q3 m3 e3)) gb (k+1)):=by
    have h:=hS4.set hkn (HR4.out.1.low hwR) (HR4.out.2.1.low hwR)
    have hsz:w.heap.size≤gb:=hbb.2.1
    refine ⟨?_,((bstep HBk.out.1 HB4.out).setCell (p:=⟨gb,k*2,none⟩) hsz _).setCell (p:=⟨gb,k*2+1,none⟩) hsz _,fun i u v hi hu hv b hb hub=>?_⟩
    ·rw [← stK_set ns N k hkn]
     exact h
    ·have x1:=heap_setat (o:=k*2) (x:=.slice p3 n3 c3) hx9
     have x2:=heap_setat (o:=k*2+1) (x:=.slice q3 m3 e3) x1
     have ev:v = .slice q3 m3 e3:=by
      have:=(box_cell (i:=k*2+1) (v:=.slice q3 m3 e3) x2 (by rw [Array.getElem?_setIfInBounds,if_pos rfl,if_pos (by simp only [Array.size_setIfInBounds,List.size_toArray];omega)])).1
      rw [show (k+1 - 1)*2+1=k*2+1 by omega] at hv
      rw [this] at hv
      exact (Option.some.inj hv).symm
     have h9:=HR4.out.2.2 b (by rw [← ev];exact hb)
     obtain ⟨s',u',a1,a2,a3,a4⟩:=(HS.out.hg.choose_spec.2).2 i _ (stK_at ns N k i (by omega) (by omega))
     have hu2:R1.cell? ⟨gb,i*2+1,none⟩=some u':=(box_cell (i:=i*2+1) HS.out.hg.choose_spec.1 (by simpa using a2)).1
     have hu3:((W4.setCell ⟨gb,k*2,none⟩ (.slice p3 n3 c3)).setCell ⟨gb,k*2+1,none⟩ (.slice q3 m3 e3)).cell? ⟨gb,i*2+1,none⟩=W4.cell? ⟨gb,i*2+1,none⟩:=by
      have e1:xs9.length=N*2:=by rw [hl9,hN9]
      rw [(box_cell (i:=i*2+1) (v:=xs9[i*2+1]'(by omega)) x2 (by
       have n1:k*2≠i*2+1:=by omega
       have n2:k*2+1≠i*2+1:=by omega
       rw [Array.getElem?_setIfInBounds,if_neg n2,Array.getElem?_setIfInBounds,if_neg n1,List.getElem?_toArray]
       exact List.getElem?_eq_getElem (by omega))).1,(box_cell (i:=i*2+1) (v:=xs9[i*2+1]'(by omega)) hx9 (by rw [List.getElem?_toArray];exact List.getElem?_eq_getElem (by omega))).1]
     have eu:u'=u:=by
      rw [hu3,cell_low hu2 HB4.out] at hu
      exact Option.some.inj hu
     rw [← eu] at hub
     have:=(World.ownsRow.lt a4 b hub).2
     omega
   clear hS4 hx9 hk9 hl9 hN9 hbb hwR hW4 B4 HB3 HR3
   go_region
   generalize hZ:World.drew _=Z
   have HZ2:Hid (SwC Z w.heap.size sb tb gb vb N (stK ns N (k+1)) (List.replicate N false)):=by
    have d:∀ {U:World},U.drew=Z→Below U.heap.size U Z:=fun h=>by rw [← h];exact below_drew1 (Below.refl _ _)
    exact HZ.out.1.up (d hZ)
   have HZ3:Hid (Below w.heap.size w Z∧Lone Z gb (k+1)):=by
    have d:∀ {U:World},U.drew=Z→Below U.heap.size U Z:=fun h=>by rw [← h];exact below_drew1 (Below.refl _ _)
    refine ⟨bstep HZ.out.2.1 (d hZ),fun i u v hi hu hv=>?_⟩
    rw [← hZ] at hu hv
    exact HZ.out.2.2 i u v hi hu hv
   clear hZ HZ
   go_wp2
   go_roundg (N - (k+1))
   case measure=>omega
   case rel=>exact ⟨k+1,by omega,rfl,by first|rfl|simp,HZ2,HZ3⟩
  ·obtain rfl:k=N:=by omega
   have hone:=H1.out.1
   obtain rfl:=H1.out.2
   obtain ⟨q,c,d0,⟨d1v,d1⟩,d2,d3,hSo⟩:=HS.out.one HBk.out.2 hone
   obtain ⟨b0,b1,b2⟩:=HS.out.tape
   have kb:=cell_lt b1
   have kd:=cell_lt d0
   have kq:=cell_lt d1
   have st:Stay q R1 (R1.setCell ⟨q,0,none⟩ (.int .i64 4294967296)):=(Stay.refl q R1).set 0 _
   obtain ⟨n0,n1,n2⟩:=hSo.tape
   obtain ⟨v0,v1⟩:=hSo.flag (i:=root) (by omega)
   have kn:=cell_lt n0
   have kv:=cell_lt v0
   have hvb:=hSo.bs.2.2
   have HF:Hid (SwC ((R1.setCell ⟨q,0,none⟩ (.int .i64 4294967296)).setCell ⟨vb,root,none⟩ (.bool true)) w.heap.size sb tb gb vb (root+1) ((stK ns (root+1) (root+1)).set root ((ndN ns (root:Int)).D,[4294967296])) ((List.replicate (root+1) false).set root true)∧Below w.heap.size w ((R1.setCell ⟨q,0,none⟩ (.int .i64 4294967296)).setCell ⟨vb,root,none⟩ (.bool true))):=⟨hSo.mark root,(HBk.out.1.setCell (p:=⟨q,0,none⟩) d3 _).setCell (p:=⟨vb,root,none⟩) hvb _⟩
   clear hSo st HS HBk hone d3 hvb eN H1
   go_wp2
   exact bodyPost_ret (v:=.tuple #[.pointer (some ⟨sb,0,none⟩),.int .i64 0]) (by simp [results,Tryz.results45,go_sem]) rfl ⟨sb,gb,vb,rfl,HF.out⟩
theorem SwC.own {W:World} {B sb tb gb vb N:Nat} {l:List Ten} {gv:List Bool} (h:SwC W B sb tb gb vb N l gv) (hN:N≤1000):OwnTs W B (.slice (some ⟨gb,0,none⟩) N N) l:=by
 obtain ⟨xs,hx,hk⟩:=h.hg
 have e:=h.ll
 refine ⟨xs,?_,hk.1,fun i t hi=>?_⟩
 ·rw [e]
  refine ⟨by rw [hk.1,e],.inr ⟨gb,N,xs.toArray,rfl,h.bs.2.1,hx,Nat.le_refl _,by unfold maxLen;omega,by simp [hk.1,e],by rw [List.take_of_length_le (by simp [hk.1,e])]⟩⟩
 ·obtain ⟨s,u,a1,a2,a3,a4⟩:=hk.2 i t hi
  refine ⟨s,u,?_,a3,a4⟩
  refine List.ext_getElem? fun j=>?_
  rw [List.getElem?_take]
  match j with
  | 0=>rw [if_pos (by omega),List.getElem?_drop];exact a1
  | 1=>rw [if_pos (by omega),List.getElem?_drop];exact a2
  | j+2=>rw [if_neg (by omega)];rfl
theorem csweep_any (B tb:Nat) (ns:List Nd) (hG:NodesG ns) (hV:NodesV ns) (hNK:NodesK ns) (hl:ns.length≤512) (root:Int) (w:World) (hT:TapC w B tb ns) (hTz:Hid (Tz w)):
  Calls Tryz.prog 24 #[.pointer (some ⟨tb,0,none⟩),.int .i64 root] w fun e w'=>∃ v,e = .returned (.tuple #[v,.int .i64 (swE ns root)])∧OwnTs w' w.heap.size v (swL ns root)∧Below w.heap.size w w':=by
 by_cases hn:0≤root∧root < (ns.length:Int)
 rotate_left
 ·have eE:swE ns root=1:=if_neg hn
  have eL:swL ns root = []:=if_neg (by rw [eE];omega)
  rw [eE,eL]
  have cV:Hid (Calls Tryz.prog 25 #[.pointer (some ⟨tb,0,none⟩),.int .i64 root] w fun e w'=>e = .returned (.tuple #[.agg #[.slice none 0 0,.slice none 0 0],.bool false])∧Below w.heap.size w w'):=cvno_any B tb ns root (by omega) w hT
  clear hT hTz hn eE eL hG hV hNK hl
  go_enter Tryz.func24,Tryz.ntmps24
  go_wp2_with fail
  refine cV.out.mono ?_
  rintro e w1 ⟨rfl,hB1⟩
  clear cV
  go_wp2
  exact bodyPost_ret (v:=.tuple #[.slice none 0 0,.int .i64 1]) (by simp [results,Tryz.results24,go_sem]) rfl ⟨_,rfl,OwnTs.nil _ _,bstep hB1 (up_alloc _ _)⟩
 obtain ⟨r,rfl⟩:∃ r:Nat,root=(r:Int):=⟨root.toNat,by omega⟩
 have hrl:r < ns.length:=by omega
 have cV:Hid (Calls Tryz.prog 25 #[.pointer (some ⟨tb,0,none⟩),.int .i64 (r:Int)] w fun e w'=>∃ v,e = .returned (.tuple #[v,.bool true])∧TRes w' w.heap.size v (ndN ns (r:Int)).D (ndN ns (r:Int)).X∧Below w.heap.size w w'):=cvalue_any B tb ns hG r _ (ndN_get hrl) w hT
 obtain ⟨L,eL⟩:∃ L,(ndN ns (r:Int)).X.length=L:=⟨_,rfl⟩
 by_cases hL:L=1
 rotate_left
 ·have eE:swE ns (r:Int)=4:=(if_pos hn).trans (if_neg (by rw [eL];exact hL))
  have eL2:swL ns (r:Int) = []:=if_neg (by rw [eE];omega)
  rw [eE,eL2]
  have hL':((L:Int)==1)=false:=by simp;omega
  have HL:Hid ((ndN ns (r:Int)).X.length=L):=eL
  clear hT hTz hn eE eL2 hG hV hNK hl hrl eL hL
  go_enter Tryz.func24,Tryz.ntmps24
  go_wp2_with fail
  refine cV.out.mono ?_
  rintro e w1 ⟨v1,rfl,⟨s1,t1,rfl,hs1,ht1⟩,hB1⟩
  obtain ⟨p1,n1,c1,rfl⟩:=hs1.form_
  obtain ⟨q1,e1,rfl,_⟩:=ht1.nums.view
  rw [HL.out]
  clear cV hs1 ht1
  go_wp2
  exact bodyPost_ret (v:=.tuple #[.slice none 0 0,.int .i64 4]) (by simp [results,Tryz.results24,go_sem]) rfl ⟨_,rfl,OwnTs.nil _ _,bstep hB1 (up_alloc _ _)⟩
 subst hL
 have eE:swE ns (r:Int)=0:=(if_pos hn).trans (if_pos eL)
 have eL2:swL ns (r:Int)=(swK ns r (r+1)).1:=if_pos eE
 rw [eE,eL2]
 have HL:Hid ((ndN ns (r:Int)).X.length=1∧r < 512):=⟨eL,by omega⟩
 have cS:Hid (∀ W,Below w.heap.size w W→Calls Tryz.prog 45 #[.pointer (some ⟨tb,0,none⟩),.int .i64 (r:Int)] W fun e w'=>∃ sb gb vb,e = .returned (.tuple #[.pointer (some ⟨sb,0,none⟩),.int .i64 0])∧SwC w' W.heap.size sb tb gb vb (r+1) (sw0 ns r).1 (sw0 ns r).2∧Below W.heap.size W w'):=fun W hW=>cstart_any B tb ns hG r hrl hl eL W (hT.up hW)
 have cP:Hid (∀ (k i sb gb vb B':Nat) W,k≤r→i=r - k→B'≤W.heap.size→Below w.heap.size w W→SwC W B' sb tb gb vb (r+1) (swK ns r k).1 (swK ns r k).2→Calls Tryz.prog 46 #[.pointer (some ⟨sb,0,none⟩),.int .i64 (i:Int)] W fun e w'=>e = .returned (.int .i64 0)∧SwC w' B' sb tb gb vb (r+1) (swK ns r (k+1)).1 (swK ns r (k+1)).2∧Below B' W w'):=fun k i sb gb vb B' W hk hi hB hW hS=>by
  subst hi
  exact cpass_any B' B tb ns hG hV hNK r (r - k) hrl (by omega) (swK ns r k) (swK_g hG hV hrl eL k) sb gb vb W (hT.up hW) (Hid.up_tz hTz hW) hS hB
 have hr5:(r:Int) < 512:=by omega
 haveI:Nonempty World:=⟨w⟩
 clear hT hTz hn eE eL2 hG hV hNK hl hrl eL
 go_enter Tryz.func24,Tryz.ntmps24
 go_wp2_with fail
 refine cV.out.mono ?_
 rintro e w1 ⟨v1,rfl,⟨s1,t1,rfl,hs1,ht1⟩,hB1⟩
 obtain ⟨p1,n1,c1,rfl⟩:=hs1.form_
 obtain ⟨q1,e1,rfl,_⟩:=ht1.nums.view
 rw [HL.out.1]
 have HB1:Hid (Below w.heap.size w w1):=hB1
 clear cV hs1 ht1 hB1
 go_wp2_with fail
 generalize hW2:World.alloc _ _=W2
 have HB2:Hid (Below w.heap.size w W2):=by
  show Below _ _ _
  rw [← hW2]
  exact bstep HB1.out (up_alloc _ _)
 clear hW2 HB1
 refine (cS.out W2 HB2.out).mono ?_
 rintro e w3 ⟨sb,gb,vb,rfl,hS3,hB3⟩
 have HS3:Hid (SwC w3 W2.heap.size sb tb gb vb (r+1) (swK ns r 0).1 (swK ns r 0).2∧Below w.heap.size w w3∧W2.heap.size≤w3.heap.size∧w.heap.size≤W2.heap.size):=⟨hS3,bstep HB2.out hB3,hB3.size,HB2.out.size⟩
 obtain ⟨B',eB'⟩:∃ B',W2.heap.size=B':=⟨_,rfl⟩
 rw [eB'] at HS3
 clear hS3 hB3 HB2 eB' cS
 go_wp2_with fail
 go_loopg [10] (r+1) (fun gg i wr=>∃ (k:Nat),k≤r+1∧gg=r+1 - k∧i = .int .i64 ((r:Int) - (k:Int))∧Hid (SwC wr B' sb tb gb vb (r+1) (swK ns r k).1 (swK ns r k).2)∧Hid (Below w.heap.size w wr∧B'≤wr.heap.size))
 case atStart=>exact ⟨0,by omega,by omega,by first|rfl|simp,HS3.out.1,HS3.out.2.1,HS3.out.2.2.1⟩
 case round=>
  obtain ⟨k,hk,hgk,rfl,HS,HBk⟩:=hrel
  obtain ⟨R1,hR1⟩:∃ R1:World,R1=wr:=⟨_,rfl⟩
  subst hR1
  by_cases hkn:k < r+1
  ·obtain ⟨i,ei⟩:∃ i:Nat,(r:Int) - (k:Int)=(i:Int):=⟨r - k,by omega⟩
   rw [ei]
   have hi5:(i:Int) < 512:=by omega
   have hik:Hid (i=r - k):=by show _=_;omega
   have HE:Hid ((i:Int) - 1=(r:Int) - ((k+1:Nat):Int)):=by show _=_;omega
   clear ei
   go_wp2_with fail
   refine (cP.out k i sb gb vb B' R1 (by omega) hik.out HBk.out.2 HBk.out.1 HS.out).mono ?_
   rintro e w4 ⟨rfl,hS4,hB4⟩
   have H4:Hid (SwC w4 B' sb tb gb vb (r+1) (swK ns r (k+1)).1 (swK ns r (k+1)).2):=hS4
   have H5:Hid (Below w.heap.size w w4∧B'≤w4.heap.size):=⟨HBk.out.1.trans (hB4.mono HS3.out.2.2.2),Nat.le_trans HBk.out.2 hB4.size⟩
   clear hS4 hB4 HS HBk
   go_wp2
   go_roundg (r+1 - (k+1))
   case measure=>omega
   case rel=>exact ⟨k+1,by omega,rfl,by rw [← HE.out],H4,H5⟩
  ·obtain rfl:k=r+1:=by omega
   have ei:(r:Int) - ((r+1:Nat):Int) = -1:=by omega
   rw [ei]
   obtain ⟨b0,b1,b2⟩:=HS.out.tape
   have kb:=cell_lt b0
   have HF:Hid (OwnTs R1 w.heap.size (.slice (some ⟨gb,0,none⟩) (r+1) (r+1)) (swK ns r (r+1)).1∧Below w.heap.size w R1):=⟨(HS.out.own (by have:=HL.out.2;omega)).low HS3.out.2.2.2,HBk.out.1⟩
   clear HS HBk ei
   go_wp2
   exact bodyPost_ret (v:=.tuple #[.slice (some ⟨gb,0,none⟩) (r+1) (r+1),.int .i64 0]) (by simp [results,Tryz.results24,go_sem]) rfl ⟨_,rfl,HF.out⟩
theorem lossof_any (B tb:Nat) (ns:List Nd) (hG:NodesG ns) (hl:ns.length≤512) (k o cl:Int) (hk:1≤k∧k≤3) (px p:Option Addr) (nx cx n c:Nat) (y:List Int) (hy:RI y) (w:World) (hT:TapC w B tb ns) (hTz:Hid (∀ W,Below B w W→Tz W)) (h:KeptL B w (.slice p n c) y):
  Calls Tryz.prog 23 #[.pointer (some ⟨tb,0,none⟩),.int .i64 o,.int .i64 k,.agg #[.slice px nx cx,.slice p n c,.int .i64 cl]] w fun e w'=>e = .returned (.tuple #[.int .i64 (gkR k o cl ns y),.int .i64 (gkE k o cl ns y)])∧TapC w' B tb (gkN k o cl ns y)∧Below B w w'∧Only SC w w'∧Spar2 tb w w':=by
 haveI:Nonempty World:=⟨w⟩
 have HZ:Hid (B≤w.heap.size):=by
  obtain ⟨hb,_,_,hv,_⟩:=hT
  exact Nat.le_trans hb (Nat.le_of_lt (heap_lt hv))
 have c1:Hid (k=1→∀ W,Below w.heap.size w W→Calls Tryz.prog 42 #[.pointer (some ⟨tb,0,none⟩),.int .i64 o,.slice p n c] W fun e w'=>e = .returned (.tuple #[.int .i64 (gkR k o cl ns y),.int .i64 (gkE k o cl ns y)])∧TapC w' B tb (gkN k o cl ns y)∧Below B W w'∧Only SC W w'∧Spar2 tb W w'):=fun e W hW=>by
  have:=csquare_any B tb ns hG hl o p n c y hy W (hT.up hW) (show Hid _ from fun W' hW'=>hTz.out W' ((hW.mono HZ.out).trans hW')) (h.up (hW.mono HZ.out) (Only.of hW))
  subst e
  exact this
 have c2:Hid (k=2→∀ W,Below w.heap.size w W→Calls Tryz.prog 43 #[.pointer (some ⟨tb,0,none⟩),.int .i64 o,.slice p n c] W fun e w'=>e = .returned (.tuple #[.int .i64 (gkR k o cl ns y),.int .i64 (gkE k o cl ns y)])∧TapC w' B tb (gkN k o cl ns y)∧Below B W w'∧Only SC W w'∧Spar2 tb W w'):=fun e W hW=>by
  have:=closz_any B tb ns hG hl o p n c y hy W (hT.up hW) (show Hid _ from fun W' hW'=>hTz.out W' ((hW.mono HZ.out).trans hW')) (h.up (hW.mono HZ.out) (Only.of hW))
  subst e
  exact this
 have c3:Hid (k=3→∀ W,Below w.heap.size w W→Calls Tryz.prog 44 #[.pointer (some ⟨tb,0,none⟩),.int .i64 o,.int .i64 cl] W fun e w'=>e = .returned (.tuple #[.int .i64 (gkR k o cl ns y),.int .i64 (gkE k o cl ns y)])∧TapC w' B tb (gkN k o cl ns y)∧Below B W w'∧Only SC W w'∧Spar2 tb W w'):=fun e W hW=>by
  have:=chinge_any B tb ns hG hl o cl W (hT.up hW) (show Hid _ from fun W' hW'=>hTz.out W' ((hW.mono HZ.out).trans hW'))
  subst e
  exact this
 obtain ⟨R,eR⟩:∃ R,gkR k o cl ns y=R:=⟨_,rfl⟩
 obtain ⟨E,eE⟩:∃ R,gkE k o cl ns y=R:=⟨_,rfl⟩
 obtain ⟨NS,eN⟩:∃ R,gkN k o cl ns y=R:=⟨_,rfl⟩
 rw [eR,eE,eN] at c1 c2 c3 ⊢
 clear eR eE eN hT hTz h hy hG hl
 go_enter Tryz.func23,Tryz.ntmps23
 have fin:Hid (∀ W w',Below w.heap.size w W→(TapC w' B tb NS∧Below B W w'∧Only SC W w'∧Spar2 tb W w')→TapC w' B tb NS∧Below B w w'∧Only SC w w'∧Spar2 tb w w'):=fun W w' hW h=>⟨h.1,(hW.mono HZ.out).trans h.2.1,(Only.of hW).trans h.2.2.1,Spar2.trans (Spar2.of hW) h.2.2.2 hW.size⟩
 rcases (by omega:k=1∨k=2∨k=3) with e1|e2|e3
 ·subst e1
  go_wp2_with fail
  generalize hW0:World.alloc _ _=W0
  have HB0:Hid (Below w.heap.size w W0):=by rw [← hW0];exact up_alloc w _
  obtain ⟨g0,g1,g2⟩:W0.cell? ⟨w.heap.size,0,none⟩=some (.slice px nx cx)∧W0.cell? ⟨w.heap.size,1,none⟩=some (.slice p n c)∧W0.cell? ⟨w.heap.size,2,none⟩=some (.int .i64 cl):=by rw [← hW0];simp [go_sem]
  have kg:=cell_size g0
  clear hW0
  go_wp2_with fail
  refine (c1.out (by first|rfl|trivial) W0 HB0.out).mono ?_
  rintro e w5 ⟨rfl,h5⟩
  have HF:Hid (TapC w5 B tb NS∧Below B w w5∧Only SC w w5∧Spar2 tb w w5):=fin.out W0 w5 HB0.out h5
  clear h5 g0 g1 g2 kg c1 c2 c3 HB0 fin
  go_wp2
  go_ret2
  exact ⟨rfl,HF.out⟩
 ·subst e2
  go_wp2_with fail
  generalize hW0:World.alloc _ _=W0
  have HB0:Hid (Below w.heap.size w W0):=by rw [← hW0];exact up_alloc w _
  obtain ⟨g0,g1,g2⟩:W0.cell? ⟨w.heap.size,0,none⟩=some (.slice px nx cx)∧W0.cell? ⟨w.heap.size,1,none⟩=some (.slice p n c)∧W0.cell? ⟨w.heap.size,2,none⟩=some (.int .i64 cl):=by rw [← hW0];simp [go_sem]
  have kg:=cell_size g0
  clear hW0
  go_wp2_with fail
  refine (c2.out (by first|rfl|trivial) W0 HB0.out).mono ?_
  rintro e w5 ⟨rfl,h5⟩
  have HF:Hid (TapC w5 B tb NS∧Below B w w5∧Only SC w w5∧Spar2 tb w w5):=fin.out W0 w5 HB0.out h5
  clear h5 g0 g1 g2 kg c1 c2 c3 HB0 fin
  go_wp2
  go_ret2
  exact ⟨rfl,HF.out⟩
 ·subst e3
  go_wp2_with fail
  generalize hW0:World.alloc _ _=W0
  have HB0:Hid (Below w.heap.size w W0):=by rw [← hW0];exact up_alloc w _
  obtain ⟨g0,g1,g2⟩:W0.cell? ⟨w.heap.size,0,none⟩=some (.slice px nx cx)∧W0.cell? ⟨w.heap.size,1,none⟩=some (.slice p n c)∧W0.cell? ⟨w.heap.size,2,none⟩=some (.int .i64 cl):=by rw [← hW0];simp [go_sem]
  have kg:=cell_size g0
  clear hW0
  go_wp2_with fail
  refine (c3.out (by first|rfl|trivial) W0 HB0.out).mono ?_
  rintro e w5 ⟨rfl,h5⟩
  have HF:Hid (TapC w5 B tb NS∧Below B w w5∧Only SC w w5∧Spar2 tb w w5):=fin.out W0 w5 HB0.out h5
  clear h5 g0 g1 g2 kg c1 c2 c3 HB0 fin
  go_wp2
  go_ret2
  exact ⟨rfl,HF.out⟩
theorem gRow_app (G:List Ten) (a b:List Int):gRow G (a++b)=gRow G a++gRow G b:=by
 unfold gRow
 rw [List.flatMap_append]
theorem gRow_take {G:List Ten} {ps:List Int} {j:Nat} (hj:j < ps.length):gRow G (ps.take (j+1))=gRow G (ps.take j)++(G.getD (ps.getD j 0).toNat noT).2:=by
 rw [List.take_add_one,List.getElem?_eq_getElem hj,gRow_app]
 congr 1
 rw [List.getD_eq_getElem?_getD (l:=ps),List.getElem?_eq_getElem hj]
 simp [gRow]
theorem gRow_le {G:List Ten} {ps:List Int} (j:Nat):(gRow G (ps.take j)).length≤(gRow G ps).length:=by
 have h:=List.take_append_drop j ps
 have:=gRow_app G (ps.take j) (ps.drop j)
 rw [h] at this
 rw [this,List.length_append]
 omega
/-- A row of one's own, as a told thing. -/
def OwnF (B:Nat) (l:List Int) (v:Value) (W:World):Prop:=OwnK .i64 23 W B v l
theorem OwnF.up {B:Nat} {l:List Int} {v:Value} {W W':World} (h:OwnF B l v W) (hB:Below W.heap.size W W'):OwnF B l v W':=OwnK.up h hB
theorem iskind_any (k:Int) (w:World):Calls Tryz.prog 20 #[.int .i64 k] w fun e w'=>e = .returned (.bool (decide (1≤k∧k≤3)))∧w'=w:=by
 by_cases h1:1≤k
 ·by_cases h2:k≤3
  ·rw [decide_eq_true (show 1≤k∧k≤3 from ⟨h1,h2⟩)]
   go_enter Tryz.func20,Tryz.ntmps20
   go_wp2
   go_ret
   exact ⟨rfl,rfl⟩
  ·rw [decide_eq_false (show ¬ (1≤k∧k≤3) from fun h=>h2 h.2)]
   have h3:3 < k:=by omega
   go_enter Tryz.func20,Tryz.ntmps20
   go_wp2
   go_ret
   exact ⟨rfl,rfl⟩
 ·rw [decide_eq_false (show ¬ (1≤k∧k≤3) from fun h=>h1 h.1)]
  have h3:k < 1:=by omega
  go_enter Tryz.func20,Tryz.ntmps20
  go_wp2
  go_ret
  exact ⟨rfl,rfl⟩
theorem inrow_any (B N m5:Nat) (L:List Ten) (Rp:List Int) (p4 p5:Option Addr) (c4 c5:Nat) (hN:L.length=N) (hN5:N≤513) (hm:Rp.length=m5) (hm5:m5≤512) (hb:∀ i,i∈Rp→0≤i∧i < (N:Int)) (hg:(gRow L Rp).length≤1048576) (w:World) (h1:OwnTs w B (.slice p4 N c4) L) (h2:Nums .i64 w (.slice p5 m5 c5) Rp):
  Calls Tryz.prog 26 #[.slice p4 N c4,.slice p5 m5 c5] w fun e w'=>∃ v,e = .returned v∧OwnK .i64 23 w' w.heap.size v (gRow L Rp)∧Below w.heap.size w w':=by
 haveI:Nonempty World:=⟨w⟩
 have HN:Hid (OwnTs w B (.slice p4 N c4) L∧Nums .i64 w (.slice p5 m5 c5) Rp∧L.length=N∧(gRow L Rp).length≤1048576∧Rp.length=m5∧∀ i,i∈Rp→0≤i∧i < (N:Int)):=⟨h1,h2,hN,hg,hm,hb⟩
 clear h1 h2 hN hg hm hb
 have H0:Hid (OwnK .i64 23 w w.heap.size (.slice none 0 0) (gRow L (Rp.take 0))):=OwnK.nil _ _ _ _
 go_enter Tryz.func26,Tryz.ntmps26
 go_wp2_with fail
 go_loopg [5,10] m5 (fun gg rv i wr=>∃ (j:Nat),j≤m5∧gg=m5 - j∧i = .int .i64 (j:Int)∧Hid (OwnK .i64 23 wr w.heap.size rv (gRow L (Rp.take j)))∧Hid (Below w.heap.size w wr))
 case atStart=>exact ⟨0,by omega,by omega,by first|rfl|simp,H0,Below.refl _ _⟩
 case round=>
  obtain ⟨j,hj,hg,rfl,HR,HBr⟩:=hrel
  by_cases hjm:j < m5
  ·have hj':(j:Int) < (m5:Int):=by omega
   have hj5:(j:Int) < 512:=by omega
   obtain ⟨_,_,_,e9,hps⟩:=(HN.out.2.1.up HBr.out).lst
   cases e9
   obtain ⟨q,o,rfl,hc⟩:=hps.out.2 j hjm
   obtain ⟨x,ex⟩:∃ x,Rp.getD j 0=x:=⟨_,rfl⟩
   rw [ex] at hc
   have hm5':=HN.out.2.2.2.2.1
   have hxm:x∈Rp:=by
    rw [← ex,List.getD_eq_getElem?_getD,List.getElem?_eq_getElem (by rw [hm5'];exact hjm)]
    exact List.getElem_mem _
   obtain ⟨hx0,hx1⟩:=HN.out.2.2.2.2.2 x hxm
   obtain ⟨xi,exi⟩:=Int.eq_ofNat_of_zero_le hx0
   subst exi
   have hxi:xi < L.length:=by rw [HN.out.2.2.1];omega
   have hi:L[xi]?=some (L.getD xi noT):=by rw [List.getD_eq_getElem?_getD,List.getElem?_eq_getElem hxi];rfl
   obtain ⟨q4,s4,u4,ep,y0,y1,_,hu⟩:=(HN.out.1.up HBr.out).at xi _ hi
   subst ep
   obtain ⟨pu,nu,cu,eu⟩:=hu.form_
   subst eu
   have eg:gRow L (Rp.take (j+1))=gRow L (Rp.take j)++(L.getD xi noT).2:=by
    rw [gRow_take (by rw [hm5'];exact hjm),ex,Int.toNat_natCast]
   have hlen:(gRow L (Rp.take j)).length+(L.getD xi noT).2.length≤1073741824:=by
    have:=gRow_le (G:=L) (ps:=Rp) (j+1)
    rw [eg,List.length_append] at this
    have:=HN.out.2.2.2.1
    omega
   have HX:Hid (gRow L (Rp.take (j+1))=gRow L (Rp.take j)++(L.getD xi noT).2∧Nums .i64 wr (.slice pu nu cu) (L.getD xi noT).2∧(gRow L (Rp.take j)).length+(L.getD xi noT).2.length≤1073741824):=⟨eg,hu.nums,hlen⟩
   have k0:=cell_size hc
   have k1:=cell_size y0
   clear eg hlen hu hps hi ex hxm hm5'
   go_wp2_with (at_builtin;refine wpList_appendK fixT (by decide) rfl (.tmp 14) (.tmp 19) rfl w.heap.size _ _ rfl HR.out _ _ rfl HX.out.2.1 HX.out.2.2 HBr.out.size w HBr.out ?_;intro v6 w6 H6 B6)
   have HN6:Hid (OwnK .i64 23 w6 w.heap.size v6 (gRow L (Rp.take (j+1)))∧Below w.heap.size w w6):=⟨by rw [HX.out.1];exact H6.out,B6⟩
   clear H6 B6 HX
   go_wp2
   go_roundg (m5 - (j+1))
   case measure=>omega
   case rel=>exact ⟨j+1,by omega,rfl,by first|rfl|simp,HN6.out.1,HN6.out.2⟩
  ·obtain rfl:j=m5:=by omega
   have HRR:Hid (OwnK .i64 23 wr w.heap.size u5 (gRow L Rp)):=by
    have:=HR.out
    rw [← HN.out.2.2.2.2.1,List.take_length] at this
    exact this
   clear HR
   go_wp2
   exact bodyPost_ret (v:=u5) (by simp [results,Tryz.results26,go_sem]) rfl ⟨_,rfl,HRR.out,HBr.out⟩
theorem Of_any (d:List Int) (ls:List Ly) (k:Int) (P X y:List Int) (cl:Int) (hRk:nE d ls=0→∀ st,st∈(plF d ls (nS d ls) P X ls.length).1→st.op≠1→RkC st.op) (hGv:nE d ls=0→∀ st,st∈(plF d ls (nS d ls) P X ls.length).1→st.op≠1→GvC st.op) (p p2 pp px py:Option Addr) (n c n2 c2 np cp nx cx ny cy:Nat) (hbig:n2≤1073741823) (hPb:np≤1048576) (w:World) (hT:Hid (Tz w)) (hK:Hid (Kz w)) (hIn:Nums .i64 w (.slice p n c) d) (hLy:LyR 0 w p2 n2 ls) (hp:RowI w pp np cp P) (hx:RowI w px nx cx X) (hy:RowI w py ny cy y):
  Calls Tryz.prog 9 #[.agg #[.slice p n c,.slice p2 n2 c2],.int .i64 k,.slice pp np cp,.agg #[.slice px nx cx,.slice py ny cy,.int .i64 cl]] w fun e w'=>∃ v,e = .returned (.tuple #[v,.int .i64 (gof d ls k P X y cl).2.2,.int .i64 (gof d ls k P X y cl).1])∧OwnK .i64 23 w' w.heap.size v (gof d ls k P X y cl).2.1∧Below w.heap.size w w':=by
 haveI:Nonempty World:=⟨w⟩
 have HN:Hid (Nums .i64 w (.slice p n c) d∧LyR 0 w p2 n2 ls∧RowI w pp np cp P∧RowI w px nx cx X∧RowI w py ny cy y):=⟨hIn,hLy,hp,hx,hy⟩
 have hPl:P.length=np:=by
  obtain ⟨_,_,_,e,h⟩:=hp.1.lst
  cases e
  exact h.out.1
 have hO:RnO (rnF d ls [] P X) P:=rnF_O hp.2.1 hx.2.1 hGv
 have HO:Hid (RnO (rnF d ls [] P X) P):=hO
 have HRK:Hid (nE d ls=0→∀ st,st∈(plF d ls (nS d ls) P X ls.length).1→st.op≠1→RkC st.op):=hRk
 obtain ⟨T,eT⟩:∃ T,gof d ls k P X y cl=T:=⟨_,rfl⟩
 have HT:Hid (gof d ls k P X y cl=T):=eT
 rw [eT]
 clear eT hIn hLy hp hx hy hO hRk hGv
 go_enter Tryz.func9,Tryz.ntmps9
 go_wp2_with fail
 generalize hW0:World.alloc _ _=W0
 have HB0:Hid (Below w.heap.size w W0):=by rw [← hW0];exact blit (up_alloc w _) _
 obtain ⟨g0,g1,x0,x1,x2⟩:W0.cell? ⟨w.heap.size,0,none⟩=some (.slice p n c)∧W0.cell? ⟨w.heap.size,1,none⟩=some (.slice p2 n2 c2)∧W0.cell? ⟨w.heap.size+1,0,none⟩=some (.slice px nx cx)∧W0.cell? ⟨w.heap.size+1,1,none⟩=some (.slice py ny cy)∧W0.cell? ⟨w.heap.size+1,2,none⟩=some (.int .i64 cl):=by rw [← hW0];simp [go_sem]
 have HG:Hid (W0.cell? ⟨w.heap.size+1,0,none⟩=some (.slice px nx cx)∧W0.cell? ⟨w.heap.size+1,1,none⟩=some (.slice py ny cy)∧W0.cell? ⟨w.heap.size+1,2,none⟩=some (.int .i64 cl)):=⟨x0,x1,x2⟩
 clear hW0
 refine (iskind_any k W0).mono ?_
 rintro e w1 ⟨rfl,hw1⟩
 rw [hw1]
 clear hw1
 by_cases hk:1≤k∧k≤3
 case neg=>
  have et:T=(1,[],0):=by rw [← HT.out];exact if_neg hk
  subst et
  rw [decide_eq_false hk]
  go_wp2
  exact bodyPost_ret (v:=.tuple #[.slice none 0 0,.int .i64 0,.int .i64 1]) (by simp [results,Tryz.results9,go_sem]) rfl ⟨_,rfl,OwnK.nil _ _ _ _,HB0.out⟩
 rw [decide_eq_true hk]
 obtain ⟨hk1,hk3⟩:=hk
 go_wp2_with fail
 refine (cnew_any _).mono ?_
 rintro e w1 ⟨tb,rfl,hT1,hB1⟩
 have H1:Hid (TapC w1 W0.heap.size tb []∧Below W0.heap.size W0 w1):=⟨hT1,hB1⟩
 replace g0:=still_cell hB1 g0
 replace g1:=still_cell hB1 g1
 replace x0:=still_cell hB1 x0
 replace x1:=still_cell hB1 x1
 replace x2:=still_cell hB1 x2
 have kg:=cell_size g0
 have kx:=cell_size x0
 clear hT1 hB1
 go_wp2_with fail
 obtain ⟨R,eR⟩:∃ R,rnF d ls [] P X=R:=⟨_,rfl⟩
 have cc:=Run_any W0.heap.size tb [] NodesG.nil (by simp) d ls P X HN.out.2.2.1.2.1 HN.out.2.2.2.1.2.1 HRK.out p p2 pp px n c n2 c2 np cp nx cx hbig (by omega) w1 H1.out.1 (show Hid _ from fun W hW=>hT.out.up (bstep HB0.out (H1.out.2.trans hW))) (Hid.up_kz hK (bstep HB0.out H1.out.2)) (fun W' hR=>HN.out.1.up (bstep HB0.out (H1.out.2.trans hR.bel))) (fun W' hR=>HN.out.2.1.up (bstep HB0.out (H1.out.2.trans hR.bel))) (fun W' hR=>HN.out.2.2.1.1.up (bstep HB0.out (H1.out.2.trans hR.bel))) HN.out.2.2.1.2.2 (fun W' hR=>HN.out.2.2.2.1.1.up (bstep HB0.out (H1.out.2.trans hR.bel)))
 have HOR:Hid (RnO R P):=by rw [← eR];exact HO.out
 have HT2:Hid (gfR k cl y R=T):=by show _=_;rw [← eR,← HT.out];exact (if_pos ⟨hk1,hk3⟩).symm
 rw [eR] at cc
 clear eR HO HT HRK
 refine cc.mono ?_
 rintro e w2 ⟨v2,rfl,hO2,hT2,hB2⟩
 obtain ⟨RE,RN,Rl,Rp⟩:=R
 dsimp only at hO2 hT2
 have H2:Hid (TapC w2 W0.heap.size tb RN∧Below W0.heap.size W0 w2∧OwnK .i64 3 w2 w1.heap.size v2 Rp):=⟨hT2,H1.out.2.trans hB2,hO2⟩
 have Hs1:Hid (W0.heap.size≤w1.heap.size):=H1.out.2.size
 replace x0:=cell_low HG.out.1 H2.out.2.1
 replace x1:=cell_low HG.out.2.1 H2.out.2.1
 replace x2:=cell_low HG.out.2.2 H2.out.2.1
 replace kx:=cell_size x0
 clear cc hO2 hT2 hB2 g0 g1 kg H1
 by_cases hE:RE=0
 case neg=>
  have et:T=(RE,[],0):=by rw [← HT2.out];exact if_neg hE
  subst et
  have hE':(RE != 0)=true:=by simpa using hE
  go_wp2
  exact bodyPost_ret (v:=.tuple #[.slice none 0 0,.int .i64 0,.int .i64 RE]) (by simp [results,Tryz.results9,go_sem]) rfl ⟨_,rfl,OwnK.nil _ _ _ _,bstep HB0.out H2.out.2.1⟩
 subst hE
 go_wp2_with fail
 have cc:=lossof_any W0.heap.size tb RN HOR.out.g HOR.out.l k Rl cl ⟨hk1,hk3⟩ px py nx cx ny cy y HN.out.2.2.2.2.2.1 w2 H2.out.1 (show Hid _ from fun W hW=>hT.out.up (bstep HB0.out (H2.out.2.1.trans hW))) (fun W' hb _=>HN.out.2.2.2.2.1.up (bstep HB0.out (H2.out.2.1.trans hb)))
 obtain ⟨E,eE⟩:∃ R,gkE k Rl cl RN y=R:=⟨_,rfl⟩
 obtain ⟨r,er⟩:∃ R,gkR k Rl cl RN y=R:=⟨_,rfl⟩
 obtain ⟨N,eN⟩:∃ R,gkN k Rl cl RN y=R:=⟨_,rfl⟩
 have HGK:Hid (E=0→GkO N r Rp P.length):=fun h0=>by
  have:=HOR.out.gk (k:=k) (cl:=cl) HN.out.2.2.2.2.2.1 rfl (by rw [← h0];exact eE)
  dsimp only at this
  rw [er,eN] at this
  exact this
 have HT3:Hid (T=if E=0 then gfT N r Rp else (E,[],0)):=by
  show _=_
  rw [← HT2.out]
  unfold gfR
  dsimp only
  rw [if_pos rfl,eE,eN,er]
 rw [eE,er,eN] at cc
 clear eE er eN HOR HT2
 refine cc.mono ?_
 rintro e w3 ⟨rfl,hT3,hB3,hO3,_⟩
 have H3:Hid (TapC w3 W0.heap.size tb N∧Below W0.heap.size W0 w3∧OwnK .i64 3 w3 w1.heap.size v2 Rp):=⟨hT3,H2.out.2.1.trans hB3,H2.out.2.2.only hO3 (by decide)⟩
 clear cc hT3 hB3 hO3 H2 x0 x1 x2 kx
 by_cases hE:E=0
 case neg=>
  have et:T=(E,[],0):=by rw [HT3.out];exact if_neg hE
  clear HT3
  subst et
  have hE':(E != 0)=true:=by simpa using hE
  go_wp2
  exact bodyPost_ret (v:=.tuple #[.slice none 0 0,.int .i64 0,.int .i64 E]) (by simp [results,Tryz.results9,go_sem]) rfl ⟨_,rfl,OwnK.nil _ _ _ _,bstep HB0.out H3.out.2.1⟩
 subst hE
 have G:=HGK.out rfl
 have HGG:Hid (GkO N r Rp P.length):=G
 have HT4:Hid (T=gfT N r Rp):=HT3.out.trans (if_pos rfl)
 clear HT3 HGK G
 go_wp2_with fail
 have cc:=csweep_any W0.heap.size tb N HGG.out.g HGG.out.v HGG.out.k HGG.out.l r w3 H3.out.1 (Hid.up_tz hT (bstep HB0.out H3.out.2.1))
 obtain ⟨E,eE⟩:∃ E,swE N r=E:=⟨_,rfl⟩
 obtain ⟨L,eL⟩:∃ L,swL N r=L:=⟨_,rfl⟩
 rw [eE,eL] at cc
 refine cc.mono ?_
 rintro e w4 ⟨v4,rfl,hO4,hB4⟩
 obtain ⟨p4,c4,rfl,hc4⟩:=hO4.form
 have H4:Hid (TapC w4 W0.heap.size tb N∧Below W0.heap.size W0 w4∧OwnK .i64 3 w4 w1.heap.size v2 Rp∧OwnTs w4 w3.heap.size (.slice p4 L.length c4) L):=⟨H3.out.1.up hB4,bstep H3.out.2.1 hB4,H3.out.2.2.up hB4,hO4⟩
 have HE:Hid (swE N r=E∧swL N r=L):=⟨eE,eL⟩
 clear cc hO4 hB4 H3 eE eL
 by_cases hE:E=0
 case neg=>
  have et:T=(E,[],0):=by rw [HT4.out];unfold gfT;rw [HE.out.1,if_neg hE]
  clear HT4
  subst et
  have hE':(E != 0)=true:=by simpa using hE
  go_wp2
  exact bodyPost_ret (v:=.tuple #[.slice none 0 0,.int .i64 0,.int .i64 E]) (by simp [results,Tryz.results9,go_sem]) rfl ⟨_,rfl,OwnK.nil _ _ _ _,bstep HB0.out H4.out.2.1⟩
 subst hE
 obtain ⟨A,eA⟩:∃ A,(ndN N r).X.getD 0 0=A:=⟨_,rfl⟩
 have et:T=(0,gRow L Rp,A):=by rw [HT4.out];unfold gfT;rw [HE.out.1,if_pos rfl,HE.out.2,eA]
 clear HT4
 subst et
 dsimp only
 obtain ⟨s0,s1,s2,s3⟩:=sw_at HGG.out.g HGG.out.v HE.out.1
 rw [HE.out.2] at s2 s3
 obtain ⟨ri,eri⟩:=Int.eq_ofNat_of_zero_le s0.1
 subst eri
 rw [Int.toNat_natCast] at s2
 have HL:Hid (L.length=ri+1∧(∀ i,i∈Rp→0≤i∧i≤(ri:Int))∧(∀ i,i∈Rp→(L.getD i.toNat noT).2.length=(ndN N i).X.length)∧(gRow L Rp).length=P.length):=⟨s2,HGG.out.p,fun i hi=>(s3 i (HGG.out.p i hi).1 (HGG.out.p i hi).2).2,by rw [gRow_len (N:=N) fun i hi=>(s3 i (HGG.out.p i hi).1 (HGG.out.p i hi).2).2];exact HGG.out.n⟩
 have HV:Hid (ndN N (ri:Int)=ndN N (ri:Int)∧N[ri]?=some (ndN N (ri:Int))∧(ndN N (ri:Int)).X = [A]):=by
  refine ⟨rfl,ndN_get (by omega),?_⟩
  obtain ⟨z,ez⟩:=List.length_eq_one_iff.1 s1
  rw [ez] at eA ⊢
  rw [← eA]
  rfl
 have hri:(ri:Int) < 512:=by have:=HGG.out.l;omega
 rw [s2] at hc4 ⊢
 rw [show (ri+1:Nat)=ri+1 from rfl]
 clear s0 s1 s2 s3 eA
 obtain ⟨p5,m5,c5,e5⟩:=H4.out.2.2.1.form_
 subst e5
 have hm5:Rp.length=m5:=by
  obtain ⟨_,_,_,e,h⟩:=H4.out.2.2.1.nums.lst
  cases e
  exact h.out.1
 have hm6:m5≤512:=by rw [← hm5];exact HGG.out.m
 go_wp2_with fail
 refine (cvalue_any W0.heap.size tb N HGG.out.g ri _ HV.out.2.1 w4 H4.out.1).mono ?_
 rintro e w7 ⟨v7,rfl,h7,hB7⟩
 obtain ⟨s7,t7,rfl,hs7,O7⟩:=h7
 rw [HV.out.2.2] at O7
 obtain ⟨ps7,ms7,cs7,rfl⟩:=hs7.form_
 obtain ⟨gv7,cv7,rfl,_⟩:=O7.at (by show 0 < 1;omega)
 have O7:Hid (OwnK .i64 23 w7 w4.heap.size (.slice (some ⟨gv7,0,none⟩) 1 cv7) [A]):=O7
 have H7:Hid (Below w4.heap.size w4 w7):=hB7
 obtain ⟨bx7,ebx7⟩:∃ z,w7.heap.size=z:=⟨_,rfl⟩
 clear hB7 hs7
 go_wp2_with fail
 generalize hK7:World.alloc _ _=K7
 have hL7:Below w7.heap.size w7 K7:=by rw [← hK7];exact up_alloc w7 _
 have X7:VBox K7 bx7 A:=by
  have:=VBox.new (s:=.slice ps7 ms7 cs7) (A:=A) O7.out
  rw [hK7,ebx7] at this
  exact this
 have J7:Hid (Below w.heap.size w K7∧w.heap.size≤K7.heap.size):=⟨bstep HB0.out (bstep H4.out.2.1 (bstep H7.out hL7)),(bstep HB0.out (bstep H4.out.2.1 (bstep H7.out hL7))).size⟩
 (try rw [ebx7])
 have cI:Hid (∀ W,Below K7.heap.size K7 W→Calls Tryz.prog 26 #[.slice p4 (ri+1) c4,.slice p5 m5 c5] W fun e w'=>∃ v,e = .returned v∧OwnK .i64 23 w' W.heap.size v (gRow L Rp)∧Below W.heap.size W w'):=fun W hW=>by
  have hh:=bstep H7.out (bstep hL7 hW)
  have a:=H4.out.2.2.2.up hh
  rw [HL.out.1] at a
  exact inrow_any _ (ri+1) m5 L Rp p4 p5 c4 c5 HL.out.1 (by omega) hm5 hm6 (fun i hi=>by have:=HL.out.2.1 i hi;omega) (by rw [HL.out.2.2.2];omega) W a (H4.out.2.2.1.up hh).nums
 obtain ⟨g7,b7,y0,y1,y2,y3⟩:=X7.cells
 have ky:=cell_lt y0
 clear hK7 hL7 ebx7 O7 H7 H4 HL HV HGG HN
 go_wp2_with fail
 refine rel [⟨2,64,OwnF K7.heap.size (gRow L Rp)⟩,⟨7,8,OwnF K7.heap.size (gRow L Rp)⟩] 8 69 (by kernel_rfl) rfl rfl (by kernel_rfl) (by rfl) ?_ ?_
 ·intro e he v W W' h hb
  simp only [List.mem_cons,List.not_mem_nil,or_false] at he
  rcases he with rfl|rfl
  ·exact OwnF.up h hb
  ·exact OwnF.up h hb
 apply Exists.intro
 refine ⟨fun x=>?_,?_,?_⟩
 ·simp only [List.take_succ_cons,List.take_zero]
  iterate 2
   refine relQuiet rfl rfl ?_
   apply Exists.intro
   refine ⟨fun F hF hf K hK=>?_,?_⟩
   ·have hFc:=hF.cell
    have hFf:=hF.frozen
    go_big_quiet_op
    first|exact hK|(apply Exists.intro;refine ⟨fun _=>?_,?_⟩;(· fail);exact hK)
   (try simp only [Act.put,List.setIfInBounds_toArray,List.set_cons_zero,List.set_cons_succ])
  refine relTold rfl rfl ?_ ?_
  ·intro F hF hf d
   have hFc:=hF.cell
   have hFf:=hF.frozen
   simp [yieldsR,yieldsUpon,go_sem]
   refine (cI.out (F d) (hF.below d)).mono ?_
   rintro e' w8 ⟨v8,rfl,h8,hb8⟩
   exact ⟨_,rfl,OwnK.low h8 (hF.below d).size,hb8⟩
  iterate 4
   (try simp only [Act.put,List.setIfInBounds_toArray,List.set_cons_zero,List.set_cons_succ])
   refine relQuiet rfl rfl ?_
   apply Exists.intro
   refine ⟨fun F hF hf K hK=>?_,?_⟩
   ·have hFc:=hF.cell
    have hFf:=hF.frozen
    go_big_quiet_op
    first|exact hK|(apply Exists.intro;refine ⟨fun _=>?_,?_⟩;(· fail);exact hK)
  (try simp only [Act.put,List.setIfInBounds_toArray,List.set_cons_zero,List.set_cons_succ])
  refine relTold rfl rfl ?_ ?_
  ·intro F hF hf d
   have hFc:=hF.cell
   have hFf:=hF.frozen
   have h9:=hf _ List.mem_cons_self (by rfl) d
   simp [yieldsR,yieldsUpon,go_sem]
   exact ⟨h9,Below.refl _ _⟩
  (try simp only [Act.put,List.setIfInBounds_toArray,List.set_cons_zero,List.set_cons_succ])
  refine relEnd ?_
  exact rfl
 ·intro x
  simp only [putsK,List.foldl_cons,List.foldl_nil,Act.put,List.setIfInBounds_toArray,List.set_cons_zero,List.set_cons_succ]
 ·intro w9 xs hB9 hf
  simp only [List.drop_succ_cons,List.drop_zero]
  have h9:=hf _ (List.mem_cons_of_mem _ List.mem_cons_self)
  obtain ⟨x2_,e2_⟩:∃ q,xs 7=q:=⟨_,rfl⟩
  obtain ⟨x3_,e3_⟩:∃ q,xs 2=q:=⟨_,rfl⟩
  simp only [e2_] at h9
  simp only [e2_,e3_]
  have HF:Hid (OwnK .i64 23 w9 w.heap.size x2_ (gRow L Rp)∧Below w.heap.size w w9):=⟨OwnK.low h9 J7.out.2,bstep J7.out.1 hB9⟩
  clear hf h9 hB9 e2_ e3_ cI y0 y1 y2 y3 X7
  go_wp2
  exact bodyPost_ret (v:=.tuple #[x2_,.int .i64 A,.int .i64 0]) (by simp [results,Tryz.results9,go_sem]) rfl ⟨_,rfl,HF.out⟩
theorem of_c {d:List Int} {ls:List Ly} {P:List Int} (h:PlC d ls P):OfC d ls P:=fun k X y cl p p2 pp px py n c n2 c2 np cp nx cx ny cy hbig hPb w hT hK hIn hLy hp hx hy=>Of_any d ls k P X y cl (fun h0 st hs ho=>(h h0 X st hs ho).1) (fun h0 st hs ho=>(h h0 X st hs ho).2) p p2 pp px py n c n2 c2 np cp nx cx ny cy (by omega) hPb w hT hK hIn hLy hp hx hy
theorem join_c:JoinC:=fun p p2 n c n2 c2 a b hn w h1 h2=>by
 refine (gjoin_any p p2 n c n2 c2 a b hn w h1 h2).mono ?_
 rintro e w' ⟨v,rfl,hB,h3,h4⟩
 refine ⟨v,rfl,?_,hB⟩
 by_cases hnn:n=n2
 ·obtain ⟨g,rfl,_,hr⟩:=h4 hnn
  rw [if_pos hnn]
  exact hr.wrd
 ·obtain rfl:=h3 hnn
  rw [if_neg hnn]
  exact ⟨none,0,0,rfl,WdR.nil _ _⟩
theorem sum_df {d:List Int} {ls:List Ly} {P:List Int} (h:PlC d ls P):SumD d ls P:=sum_d (of_c h) h
theorem sum_of {d:List Int} {ls:List Ly} {P:List Int} (h:PlC d ls P):SumC d ls P:=(sum_df h).c
end Go.Proofs.YtjlofobnmjompaaGreatDoor.Wd
