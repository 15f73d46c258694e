/- The code's sweep: a node gives on. · The code's start of a sweep. · The code's Sweep. · The loss of a kind; one example's gradient. · One example's gradient, and loss. · What grad's calls tell, handed over as contracts. · Any net's plan: its Ops are known. -/
import Derived.Test.YtjlofobnmjompaaGreatDoorT39
import Derived.Test.YtjlofobnmjompaaGreatDoorT36
import Derived.BigQuiet
import Derived.Test.YtjlofobnmjompaaGreatDoorT37
set_option linter.unusedVariables false
set_option linter.unusedSimpArgs false
set_option maxHeartbeats 16000000
set_option maxRecDepth 16000
namespace Go.Proofs.YtjlofobnmjompaaGreatDoor.Wd
open Go.RowKit Fx
def TupR (B:Nat) (a b:Ten) (v:Value) (W:World):Prop:=∃ u q,v = .tuple #[u,q,.int .i64 0]/\OwnT B a.1 a.2 u W/\OwnT B b.1 b.2 q W
theorem TupR.up {B:Nat} {a b:Ten} {v:Value} {W W':World} (h:TupR B a b v W) (D:Below W.heap.size W W'):TupR B a b v W':=by
 obtain ⟨u,q,e,H,I⟩:=h;exact ⟨u,q,e,H.up D,I.up D⟩
theorem n_d (B B0 tb:Nat) (ns:List Nd) (hG:NodesG ns) (hV:NodesV ns) (aw:NodesK ns) (root i:Nat) (hr:root < ns.length) (hi:i<=root) (H:SwT) (ag:SwG ns root H) (V gb vb:Nat) (w:World) (hT:TapC w B0 tb ns) (az:Hid (Tz w)) (hS:SwC w B V tb gb vb (root+1) H.1 H.2) (hB:B<=w.heap.size):
  Calls Tryz.prog 46 #[.pointer (some ⟨V,0,none⟩),.int .i64 (i:Int)] w fun e J=>e = .returned (.int .i64 0)/\SwC J B V tb gb vb (root+1) (c_m ns i H).1 (c_m ns i H).2/\Below B w J:=by
 obtain ⟨N,eN⟩:∃ N,root+1=N:=⟨_,rfl⟩
 rw [eN] at hS ⊢;have bb:i < N:=by omega
 have bc:(i:Int) < (N:Int):=by omega
 obtain ⟨b0,b1,b2⟩:=hS.tape;obtain ⟨v0,v1⟩:=hS.flag bb;have kb:=a_a b0;have kv:=a_a v0;by_cases ah:H.2.getD i false=true;rotate_left
 ·have e0:c_m ns i H=H:=if_neg fun h=>ah h.1;rw [e0];have M:H.2.getD i false=false:=by simpa using ah
  rw [M] at v0;have HS:Hid (SwC w B V tb gb vb N H.1 H.2):=hS;clear hS hT hG hV aw ag az e0 M ah eN;go_enter Tryz.func46,Tryz.ntmps46;go_wp2;exact bodyPost_ret (v:=.int .i64 0) (by simp [results,Tryz.results46,go_sem]) rfl ⟨rfl,HS.out,Below.refl _ _⟩
 rw [ah] at v0;obtain ⟨⟨op,a,b,k,D,X⟩,aa⟩:∃ nd,ndN ns (i:Int)=nd:=⟨_,rfl⟩
 have ai:ns[i]?=some ⟨op,a,b,k,D,X⟩:=by rw [<- aa];exact c_S (by omega)
 obtain ⟨g,eg⟩:∃ g,H.1.getD i noT=g:=⟨_,rfl⟩
 have aI:H.1[i]?=some g:=by rw [<- eg,List.getD_eq_getElem?_getD,List.getElem?_eq_getElem (by rw [ag.l];omega)];rfl
 have hg:=ag.g i hi;rw [eg,aa] at hg;obtain ⟨gs,gu,⟨c0,f0⟩,⟨O,f1⟩,ax,au⟩:=hS.read aI;obtain ⟨p,n,c,rfl⟩:=ax.form_;obtain ⟨p2,n2,c2,rfl⟩:=au.form_;obtain ⟨RA,am⟩:∃ R,onA op k (aOf ns ⟨op,a,b,k,D,X⟩) (bOf ns ⟨op,a,b,k,D,X⟩) g=R:=⟨_,rfl⟩
 obtain ⟨RB,ap⟩:∃ R,onB op k (aOf ns ⟨op,a,b,k,D,X⟩) (bOf ns ⟨op,a,b,k,D,X⟩) g=R:=⟨_,rfl⟩
 have a1:Hid (∀ W,Below w.heap.size w W->Calls Tryz.prog 47 #[.pointer (some ⟨tb,0,none⟩),.int .i64 (i:Int)] W fun e J=>∃ s t,e = .returned (.tuple #[.agg #[.int .i64 op,.int .i64 a,.int .i64 b,.int .i64 k,s,t],.bool true])/\OwnK .i64 3 J W.heap.size s D/\OwnK .i64 23 J W.heap.size t X/\Below W.heap.size W J):=fun W hW=>m_H B0 tb ns hG i _ ai W (hT.up hW)
 have aT:Hid (∀ W ps ac cs pt nt ct,Below w.heap.size w W->Calls Tryz.prog 68 #[.pointer (some ⟨tb,0,none⟩),.agg #[.int .i64 op,.int .i64 a,.int .i64 b,.int .i64 k,.slice ps ac cs,.slice pt nt ct],.agg #[.slice p n c,.slice p2 n2 c2]] W fun e J=>∃ u v,e = .returned (.tuple #[u,v,.int .i64 0])/\TRes J W.heap.size u RA.1 RA.2/\TRes J W.heap.size v RB.1 RB.2/\Below W.heap.size W J):=fun W ps ac cs pt nt ct hW=>by
  rw [<- am,<- ap];exact m_J B0 tb ns hG hV aw i op a b k D X ai ps pt p p2 ac cs nt ct n c n2 c2 g hg.1 hg.2 au.cap W (hT.up hW) (Hid.up_tz az hW) (ax.nums.up hW) (au.nums.up hW)
 obtain ⟨s1,aY,ay⟩:∃ s1:SwT,Hid (∀ W p1 q1 n1 O m1 M,SwC W B V tb gb vb N H.1 H.2->B<=W.heap.size->Nums .i64 W (.slice p1 n1 O) RA.1->Nums .i64 W (.slice q1 m1 M) RA.2->Calls Tryz.prog 69 #[.pointer (some ⟨V,0,none⟩),.int .i64 a,.agg #[.slice p1 n1 O,.slice q1 m1 M]] W fun e J=>e = .returned (.int .i64 0)/\SwC J B V tb gb vb N s1.1 s1.2/\Below B W J/\But2 gb vb W J)
   /\ Hid (∀ W p1 q1 n1 O m1 M,SwC W B V tb gb vb N s1.1 s1.2->B<=W.heap.size->Nums .i64 W (.slice p1 n1 O) RB.1->Nums .i64 W (.slice q1 m1 M) RB.2->Calls Tryz.prog 69 #[.pointer (some ⟨V,0,none⟩),.int .i64 b,.agg #[.slice p1 n1 O,.slice q1 m1 M]] W fun e J=>e = .returned (.int .i64 0)/\SwC J B V tb gb vb N (c_m ns i H).1 (c_m ns i H).2/\Below B W J/\But2 gb vb W J):=by
  have no:∀ (z:Int) (s:SwT),z < 0->∀ (W:World) (p1 q1:Option Addr) (n1 O m1 M:Nat),SwC W B V tb gb vb N s.1 s.2->B<=W.heap.size->Calls Tryz.prog 69 #[.pointer (some ⟨V,0,none⟩),.int .i64 z,.agg #[.slice p1 n1 O,.slice q1 m1 M]] W fun e J=>e = .returned (.int .i64 0)/\SwC J B V tb gb vb N s.1 s.2/\Below B W J/\But2 gb vb W J:=fun z s hz W p1 q1 n1 O m1 M h hb=>by
   refine (q_4 z hz V p1 q1 n1 O m1 M W).mono ?_;rintro e J ⟨rfl,hw⟩;exact ⟨rfl,h.up hw,hw.mono hb,But2.of hw⟩
  have aD:∀ (j:Nat) (s:SwT) (R:Ten),SwG ns root s->j<=root->b_b R->R.1=(ndN ns (j:Int)).D->∀ (W:World) (p1 q1:Option Addr) (n1 O m1 M:Nat),SwC W B V tb gb vb N s.1 s.2->B<=W.heap.size->Nums .i64 W (.slice p1 n1 O) R.1->Nums .i64 W (.slice q1 m1 M) R.2->Calls Tryz.prog 69 #[.pointer (some ⟨V,0,none⟩),.int .i64 (j:Int),.agg #[.slice p1 n1 O,.slice q1 m1 M]] W fun e J=>e = .returned (.int .i64 0)/\SwC J B V tb gb vb N (c_C s j R).1 (c_C s j R).2/\Below B W J/\But2 gb vb W J:=fun j s R hs hj hR eR W p1 q1 n1 O m1 M h hb u1 u2=>by
   have q:=hs.g j hj;exact o_S B V tb gb vb N s.1 s.2 j (by omega) (s.1.getD j noT) R (by rw [List.getD_eq_getElem?_getD,List.getElem?_eq_getElem (by rw [hs.l];omega)];rfl) q.1 hR (eR.trans q.2.symm) p1 q1 n1 O m1 M W h hb u1 u2
  have aX:(ndN ns (i:Int)).op=op:=by rw [aa]
  by_cases ho:op=1
  ·have e0:c_m ns i H=H:=if_neg fun h=>h.2 (aX.trans ho);rw [e0]
   have bh:a = -1/\b = -1:=by
    rcases hV i _ ai with h|⟨h,_⟩
    ·exact h.2
    ·have:(2:Int)<=op:=h.1;omega
   exact ⟨H,fun W p1 q1 n1 O m1 M h hb _ _=>no a H (by omega) W p1 q1 n1 O m1 M h hb,fun W p1 q1 n1 O m1 M h hb _ _=>no b H (by omega) W p1 q1 n1 O m1 M h hb⟩
  ·obtain ⟨o1,o2⟩:=t_A hG hV ai ho hg.1 hg.2;simp only [] at o1 o2;rw [am] at o1;rw [ap] at o2;rcases hV i _ ai with h|⟨aK,ha,hb,aV,_⟩
   ·exact absurd h.1 ho
   simp only [] at aK ha hb aV;obtain ⟨ja,rfl⟩:∃ j:Nat,a=(j:Int):=⟨a.toNat,by omega⟩
   have gA:=ag.give (j:=ja) (p:=RA) (by omega) o1.1 o1.2;have ao:H.2.getD i false=true/\(ndN ns (i:Int)).op≠1:=⟨ah,by rw [aX];exact ho⟩
   by_cases ht:c_0 op
   ·have aR:=hb ht;obtain ⟨jb,rfl⟩:∃ j:Nat,b=(j:Int):=⟨b.toNat,by omega⟩
    have eD:RB.1=(ndN ns (jb:Int)).D:=(o2 ht).2.trans (show dD ns op (jb:Int)=_ by unfold dD;rw [if_pos ht])
    have e0:c_m ns i H=c_C (c_C H ja RA) jb RB:=by
     unfold c_m;rw [if_pos ao,aa];simp only [];rw [if_pos aR.1,eg,am,ap];rfl
    rw [e0];exact ⟨c_C H ja RA,aD ja H RA ag (by omega) o1.1 o1.2,aD jb _ RB gA (by omega) (o2 ht).1 eD⟩
   ·have aR:=aV ht
    have e0:c_m ns i H=c_C H ja RA:=by
     unfold c_m;rw [if_pos ao,aa];simp only [];rw [if_neg (by omega),eg,am];rfl
    rw [e0];exact ⟨c_C H ja RA,aD ja H RA ag (by omega) o1.1 o1.2,fun W p1 q1 n1 O m1 M h hb _ _=>no b _ (by omega) W p1 q1 n1 O m1 M h hb⟩
 obtain ⟨s2,aN⟩:∃ s,c_m ns i H=s:=⟨_,rfl⟩
 rw [aN] at ay ⊢;have HS:Hid (SwC w B V tb gb vb N H.1 H.2/\B<=w.heap.size):=⟨hS,hB⟩
 have HC:Hid ((w.cell? ⟨V,0,none⟩=some (.pointer (some ⟨tb,0,none⟩)))/\w.cell? ⟨V,1,none⟩=some (.slice (some ⟨gb,0,none⟩) N N)/\w.cell? ⟨gb,i*2,none⟩=some (.slice p n c)/\w.cell? ⟨gb,i*2+1,none⟩=some (.slice p2 n2 c2)):=⟨b0,b1,c0,O⟩
 haveI:Nonempty World:=⟨w⟩
 clear aN am ap hg aI eg ai aa ah ax au hS hB hT az ag aw hV hG f0 f1 c0 O eN hr hi;go_enter Tryz.func46,Tryz.ntmps46;go_wp2_with fail
 refine (a1.out w (Below.refl _ _)).mono ?_;rintro e w1 ⟨s_,t_,rfl,a0,aW,aG⟩;obtain ⟨ps,ac,cs,rfl⟩:=a0.form_;obtain ⟨pt,nt,ct,rfl⟩:=aW.form_;clear a0 aW a1 b0 b1 b2 v0 v1 kb kv;go_wp2_with fail
 generalize aB:World.alloc _ _=W0;have aH:Below w1.heap.size w1 W0:=by rw [<- aB];exact a_b _ _
 have XN:W0.heap[w1.heap.size]?=some (.cells #[.int .i64 op,.int .i64 a,.int .i64 b,.int .i64 k,.slice ps ac cs,.slice pt nt ct] 109 (0,0)):=by rw [<- aB];exact heap_alloc_new _ _
 have ab:Hid (Below w.heap.size w W0):=a_c aG aH;obtain ⟨nb,aJ⟩:∃ nb,w1.heap.size=nb:=⟨_,rfl⟩
 rw [aJ] at XN ⊢;have HX:Hid (W0.heap[nb]?=some (.cells #[.int .i64 op,.int .i64 a,.int .i64 b,.int .i64 k,.slice ps ac cs,.slice pt nt ct] 109 (0,0))):=XN;clear aB aH aG aJ;have b0:=a_d HC.out.1 ab.out;have b1:=a_d HC.out.2.1 ab.out;have c0:=a_d HC.out.2.2.1 ab.out;have O:=a_d HC.out.2.2.2 ab.out;obtain ⟨⟨k0,k1,k2,k3,k4,k5⟩,_⟩:=g_m XN;have kz:=a_i XN;have kb:=a_a b0;have kc:=a_a c0;clear XN;refine s_H [⟨12,41,TupR W0.heap.size RA RB⟩,⟨13,28,TupR W0.heap.size RA RB⟩,⟨14,42,OwnT W0.heap.size RA.1 RA.2⟩,⟨15,43,OwnT W0.heap.size RB.1 RB.2⟩,⟨17,7,NewC W0.heap.size⟩,⟨18,8,NewC W0.heap.size⟩] 19 61 (by kernel_rfl) rfl rfl [15,16] (by kernel_rfl) (by kernel_rfl) (fun i0 hi o0 ho c a w v h=>?_) (by rfl) [17] [18] t_Y ?fw (by decide) (by decide) ?ph ?_
 ·simp only [List.mem_cons,List.not_mem_nil,or_false] at hi;rcases hi with rfl|rfl
  ·cases ho;exact h
  ·cases ho;exact h
 case fw=>
  intro e he hk v W h b hb;simp only [List.mem_cons,List.not_mem_nil,or_false] at he hk
  have q:NewC W0.heap.size v W:=by
   rcases he with rfl|rfl|rfl|rfl|rfl|rfl
   ·simp at hk
   ·simp at hk
   ·simp at hk
   ·simp at hk
   ·exact h
   ·exact h
  obtain ⟨g,M,e2,_⟩:=q;rw [M] at hb;obtain rfl:g=b:=Option.some.inj hb;exact a_i e2
 case ph=>
  intro e he v W W' h hb;simp only [List.mem_cons,List.not_mem_nil,or_false] at he;rcases he with rfl|rfl|rfl|rfl|rfl|rfl
  ·exact TupR.up h hb
  ·exact TupR.up h hb
  ·exact OwnT.up h hb
  ·exact OwnT.up h hb
  ·exact NewC.up h hb
  ·exact NewC.up h hb
 apply Exists.intro;refine ⟨?yt,?yl,?wk,?pk,?st,?sa,?rest⟩
 case wk=>
  intro x;simp only [List.take_succ_cons,List.take_zero]
  iterate 12
   refine a_n rfl rfl ?_;apply Exists.intro;refine ⟨fun F hF hf K hK=>?_,?_⟩
   ·have hFc:=hF.cell;have hFf:=hF.frozen
    go_big_quiet_op
    first|exact hK|(apply Exists.intro;refine ⟨fun _=>?_,?_⟩;(· fail);exact hK)
   (try simp only [Act.put,sA_,sB_,sC_])
  refine a_p rfl rfl ?_ ?_
  ·intro F hF hf d;have hFc:=hF.cell;have hFf:=hF.frozen;simp [a_k,a_g,go_sem];refine (aT.out (F d) _ _ _ _ _ _ (a_c ab.out (hF.below d))).mono ?_;rintro e' w8 ⟨v8,v9,rfl,h8,h9,a7⟩;exact ⟨_,rfl,⟨v8,v9,rfl,(h8.low (hF.below d).size).own,(h9.low (hF.below d).size).own⟩,a7⟩
  (try simp only [Act.put,sA_,sB_,sC_])
  refine a_p rfl rfl ?_ ?_
  ·intro F hF hf d;have hFc:=hF.cell;have hFf:=hF.frozen;have h9:=hf _ List.mem_cons_self (by rfl) d;simp [a_k,a_g,go_sem];exact ⟨h9,Below.refl _ _⟩
  (try simp only [Act.put,sA_,sB_,sC_])
  refine a_p rfl rfl ?_ ?_
  ·intro F hF hf d;have hFc:=hF.cell;have hFf:=hF.frozen;have h9:=hf _ (List.mem_cons_of_mem _ List.mem_cons_self) (by rfl) d;obtain ⟨u9,q9,e9,o9,o8⟩:=h9;simp only [] at e9;simp [a_k,a_g,go_sem,e9];exact ⟨o9,Below.refl _ _⟩
  (try simp only [Act.put,sA_,sB_,sC_])
  refine a_p rfl rfl ?_ ?_
  ·intro F hF hf d;have hFc:=hF.cell;have hFf:=hF.frozen;have h9:=hf _ (List.mem_cons_of_mem _ List.mem_cons_self) (by rfl) d;obtain ⟨u9,q9,e9,o9,o8⟩:=h9;simp only [] at e9;simp [a_k,a_g,go_sem,e9];exact ⟨o8,Below.refl _ _⟩
  (try simp only [Act.put,sA_,sB_,sC_])
  refine a_n rfl rfl ?_;apply Exists.intro;refine ⟨fun F hF hf K hK=>?_,?_⟩
  ·have hFc:=hF.cell;have hFf:=hF.frozen;have h9:=hf _ (List.mem_cons_of_mem _ List.mem_cons_self) (by rfl);obtain ⟨u9,q9,e9,_⟩:=h9 W0;simp only [] at e9
   go_big_quiet_op
   first|exact hK|(apply Exists.intro;refine ⟨fun _=>?_,?_⟩;(· fail);exact hK)
  iterate 2
   (try simp only [Act.put,sA_,sB_,sC_])
   refine a_p rfl rfl ?_ ?_
   ·intro F hF hf d;have hFc:=hF.cell;have hFf:=hF.frozen;simp [a_k,a_g,go_sem];exact ⟨⟨(F d).heap.size,rfl,by show ((F d).heap.push _)[(F d).heap.size]?=_;simp,(hF.below d).size⟩,a_b _ _⟩
  (try simp only [Act.put,sA_,sB_,sC_])
  refine b_f ?_;exact rfl
 case pk=>
  intro x;simp only [b_n,List.foldl_cons,List.foldl_nil,Act.put,sA_,sB_,sC_]
 case yt=>
  intro i0 hi o0 ho e he W x hx;simp only [List.mem_cons,List.not_mem_nil,or_false] at hi;rcases hi with rfl|rfl
  ·cases ho;have a6:(⟨15,43,OwnT W0.heap.size RB.1 RB.2⟩:Told)=e:=Option.some.inj he;subst a6;obtain ⟨u9,q9,e9,n9,o9⟩:=hx _ (List.mem_cons_of_mem _ List.mem_cons_self) (by rfl);simp only [] at e9;refine ⟨q9,o9,.inl ⟨by rfl,fun w=>?_⟩⟩;simp [execOp,Act.eval,e9,go_sem]
  ·cases he
 case yl=>
  intro i0 hi o0 ho hn x hx;simp only [List.mem_cons,List.not_mem_nil,or_false] at hi;rcases hi with rfl|rfl
  ·cases hn
  ·cases ho;obtain ⟨W9,u9,q9,e9,_⟩:=hx _ (List.mem_cons_of_mem _ List.mem_cons_self) (by rfl);simp only [] at e9;refine ⟨.int .i64 0,fun t ht=>?_,.inl ⟨by rfl,fun w=>?_⟩⟩
   ·cases ht;rfl
   ·simp [execOp,Act.eval,e9,go_sem]
 case st=>
  intro e he hk o ho x F hF hf d;simp only [List.mem_cons,List.not_mem_nil,or_false] at he;rcases he with rfl|rfl|rfl|rfl|rfl|rfl
  ·exact absurd hk (by simp)
  ·exact absurd hk (by simp)
  ·exact absurd hk (by simp)
  ·exact absurd hk (by simp)
  ·cases ho;refine c_c (φ:=fun v J=>v = .pointer (some ⟨(F d).heap.size,0,none⟩)/\J=(F d).alloc (.cells #[.slice none 0 0,.slice none 0 0] 64)) ?_ ?_
   ·rintro v J ⟨rfl,rfl⟩;exact ⟨⟨(F d).heap.size,rfl,by show ((F d).heap.push _)[(F d).heap.size]?=_;simp,(hF.below d).size⟩,fun b hb=>.inl (Nat.le_of_eq (Option.some.inj hb))⟩
   ·simp [a_k,a_g,go_sem]
    first|exact a_b _ _|exact ⟨⟨rfl,rfl⟩,a_b _ _⟩
  ·exact absurd hk (by simp)
 case sa=>
  intro e he hk o ho x F hF hf d;simp only [List.mem_cons,List.not_mem_nil,or_false] at he;rcases he with rfl|rfl|rfl|rfl|rfl|rfl
  ·exact absurd hk (by simp)
  ·exact absurd hk (by simp)
  ·exact absurd hk (by simp)
  ·exact absurd hk (by simp)
  ·exact absurd hk (by simp)
  ·cases ho;refine c_c (φ:=fun v J=>v = .pointer (some ⟨(F d).heap.size,0,none⟩)/\J=(F d).alloc (.cells #[.slice none 0 0,.slice none 0 0] 64)) ?_ ?_
   ·rintro v J ⟨rfl,rfl⟩;exact ⟨⟨(F d).heap.size,rfl,by show ((F d).heap.push _)[(F d).heap.size]?=_;simp,(hF.below d).size⟩,fun b hb=>Nat.le_of_eq (Option.some.inj hb)⟩
   ·simp [a_k,a_g,go_sem]
    first|exact a_b _ _|exact ⟨⟨rfl,rfl⟩,a_b _ _⟩
 intro z1 xs an hf aS;simp only [List.drop_succ_cons,List.drop_zero];have aq:=aS _ _ (List.mem_cons_of_mem _ (List.mem_cons_of_mem _ (List.mem_cons_of_mem _ (List.mem_cons_of_mem _ List.mem_cons_self)))) (List.mem_cons_of_mem _ (List.mem_cons_of_mem _ (List.mem_cons_of_mem _ (List.mem_cons_of_mem _ (List.mem_cons_of_mem _ List.mem_cons_self))))) (by simp) (by simp);obtain ⟨pa,na,ca,pb,I,cb,ev,o1,o2⟩:=hf _ (List.mem_cons_of_mem _ (List.mem_cons_of_mem _ List.mem_cons_self));obtain ⟨pc,nc,cc,pd,nd,cd,ew,o3,o4⟩:=hf _ (List.mem_cons_of_mem _ (List.mem_cons_of_mem _ (List.mem_cons_of_mem _ List.mem_cons_self)));obtain ⟨g7,eb,af,aF⟩:=hf _ (List.mem_cons_of_mem _ (List.mem_cons_of_mem _ (List.mem_cons_of_mem _ (List.mem_cons_of_mem _ List.mem_cons_self))));obtain ⟨L,av,ae,aC⟩:=hf _ (List.mem_cons_of_mem _ (List.mem_cons_of_mem _ (List.mem_cons_of_mem _ (List.mem_cons_of_mem _ (List.mem_cons_of_mem _ List.mem_cons_self)))));simp only [] at ev ew eb av aq;rw [eb,av] at aq;have aA:g7≠L:=fun e=>aq g7 rfl (by rw [e];rfl);obtain ⟨bk,aU⟩:∃ q,xs 12=q:=⟨_,rfl⟩
 obtain ⟨bd,aZ⟩:∃ q,xs 13=q:=⟨_,rfl⟩
 simp only [ev,ew,eb,av,aU,aZ];have aQ:Below W0.heap.size W0 (set2 (set2 z1 g7 (.slice pa na ca) (.slice pb I cb)) L (.slice pc nc cc) (.slice pd nd cd)):=a_7 (a_7 an g7 aF _ _) L aC _ _;have a5:z1.heap[nb]?=some (.cells #[.int .i64 op,.int .i64 a,.int .i64 b,.int .i64 k,.slice ps ac cs,.slice pt nt ct] 109 (0,0)):=(an.block _ (a_i HX.out)).trans HX.out;have bl:=a_i HX.out;have bi:nb≠g7:=by omega
 have bf:nb≠L:=by omega
 have f1:=o1.off_type af (by decide);have f2:=o2.off_type af (by decide);have f3:=o3.off_type af (by decide);have f4:=o4.off_type af (by decide);have f5:=o1.off_type ae (by decide);have f6:=o2.off_type ae (by decide);have f7:=o3.off_type ae (by decide);have f8:=o4.off_type ae (by decide);have t1:=Stay.set2 (g:=g7) z1 (.slice pa na ca) (.slice pb I cb);have t2:=Stay.set2 (g:=L) (set2 z1 g7 (.slice pa na ca) (.slice pb I cb)) (.slice pc nc cc) (.slice pd nd cd);have y7:Cel (set2 (set2 z1 g7 (.slice pa na ca) (.slice pb I cb)) L (.slice pc nc cc) (.slice pd nd cd)) g7 (.slice pa na ca) (.slice pb I cb):=((c_o af).set _ _).stay t2 aA;have y8:Cel (set2 (set2 z1 g7 (.slice pa na ca) (.slice pb I cb)) L (.slice pc nc cc) (.slice pd nd cd)) L (.slice pc nc cc) (.slice pd nd cd):=((c_o ae).stay t1 (Ne.symm aA)).set _ _;have HU:Hid ((Cel (set2 (set2 z1 g7 (.slice pa na ca) (.slice pb I cb)) L (.slice pc nc cc) (.slice pd nd cd)) g7 (.slice pa na ca) (.slice pb I cb)/\Cel (set2 (set2 z1 g7 (.slice pa na ca) (.slice pb I cb)) L (.slice pc nc cc) (.slice pd nd cd)) L (.slice pc nc cc) (.slice pd nd cd))/\(OwnK .i64 3 (set2 (set2 z1 g7 (.slice pa na ca) (.slice pb I cb)) L (.slice pc nc cc) (.slice pd nd cd)) W0.heap.size (.slice pa na ca) RA.1/\OwnK .i64 23 (set2 (set2 z1 g7 (.slice pa na ca) (.slice pb I cb)) L (.slice pc nc cc) (.slice pd nd cd)) W0.heap.size (.slice pb I cb) RA.2/\OwnK .i64 3 (set2 (set2 z1 g7 (.slice pa na ca) (.slice pb I cb)) L (.slice pc nc cc) (.slice pd nd cd)) W0.heap.size (.slice pc nc cc) RB.1/\OwnK .i64 23 (set2 (set2 z1 g7 (.slice pa na ca) (.slice pb I cb)) L (.slice pc nc cc) (.slice pd nd cd)) W0.heap.size (.slice pd nd cd) RB.2)/\Below W0.heap.size W0 (set2 (set2 z1 g7 (.slice pa na ca) (.slice pb I cb)) L (.slice pc nc cc) (.slice pd nd cd))/\W0.heap.size<=L):=⟨⟨y7,y8⟩,⟨(o1.stay t1 f1).stay t2 f5,(o2.stay t1 f2).stay t2 f6,(o3.stay t1 f3).stay t2 f7,(o4.stay t1 f4).stay t2 f8⟩,aQ,aC⟩
 obtain ⟨r0,r1,r2,r3⟩:=c_o af;obtain ⟨r4,r5,r6,r7⟩:=c_o ae;have z7:=a_a r0;have z8:=a_a r4;have bg:L≠g7:=Ne.symm aA;clear f1 f2 f3 f4 f5 f6 f7 f8 o1 o2 o3 o4 t1 t2 y7 y8 aQ af aF ae aC hf aS aq ev ew eb av aU aZ an aT b0 b1 c0 O k0 k1 k2 k3 k4 k5 kb kc;obtain ⟨U,eU⟩:∃ U,(set2 (set2 z1 g7 (.slice pa na ca) (.slice pb I cb)) L (.slice pc nc cc) (.slice pd nd cd))=U:=⟨_,rfl⟩
 have HK:Hid (U.heap[nb]?=some (.cells #[.int .i64 op,.int .i64 a,.int .i64 b,.int .i64 k,.slice ps ac cs,.slice pt nt ct] 109 (0,0))):=by
  show _=_;rw [<- eU,HU.out.2.2.1.block _ (a_i HX.out)];exact HX.out
 obtain ⟨⟨k0,k1,k2,k3,k4,k5⟩,_⟩:=g_m HK.out;have kn:=a_i HK.out;rw [eU] at HU;obtain ⟨q0,q1,_,_⟩:=HU.out.1.1;have kq:=a_a q0;clear a5;go_wp2_with fail
 clear eU k0 k1 k2 k3 k4 k5 kn q0 q1 kq r0 r1 r2 r3 r4 r5 r6 r7 z7 z8;have ak:Hid (Below w.heap.size w U):=a_c ab.out HU.out.2.2.1;have a2:B<=U.heap.size:=Nat.le_trans HS.out.2 ak.out.size;refine (aY.out U _ _ _ _ _ _ (HS.out.1.up ak.out) a2 HU.out.2.1.1.nums HU.out.2.1.2.1.nums).mono ?_;rintro e w3 ⟨rfl,aE,a3,ar⟩;obtain ⟨be,aP,_⟩:=(HS.out.1.up ak.out).hg;have aL:=(HS.out.1.up ak.out).hv;have oU:=ar.only aP aL;have hg8:L < U.heap.size:=a_a HU.out.1.2.1
 have ba:gb < W0.heap.size:=by
  obtain ⟨bj,a8,_⟩:=(HS.out.1.up ab.out).hg;exact a_i a8
 have a4:vb < W0.heap.size:=a_i (HS.out.1.up ab.out).hv;have a9:=HU.out.2.2.2;have e8:w3.heap[L]?=U.heap[L]?:=ar.2 L hg8 (by omega) (by omega);have b8:Below (U.heap.size) U U:=Below.refl _ _;have aj:Hid ((SwC w3 B V tb gb vb N s1.1 s1.2/\B<=w3.heap.size)/\(Nums .i64 w3 (.slice pc nc cc) RB.1/\Nums .i64 w3 (.slice pd nd cd) RB.2)/\Below B w w3):=⟨⟨aE,Nat.le_trans a2 ar.1⟩,⟨(HU.out.2.1.2.2.1.only oU (by decide)).nums,(HU.out.2.1.2.2.2.only oU (by decide)).nums⟩,(ak.out.mono HS.out.2).trans a3⟩
 obtain ⟨⟨k0,k1,k2,k3,k4,k5⟩,_⟩:=g_m (oU.keep HK.out (by decide));have kn:=a_i (oU.keep HK.out (by decide))
 have ad:∀ o v,U.cell? ⟨L,o,none⟩=some v->w3.cell? ⟨L,o,none⟩=some v:=fun o v h=>by
  unfold World.cell? at h ⊢;rw [show w3.heap[(⟨L,o,none⟩:Addr).block]?=U.heap[(⟨L,o,none⟩:Addr).block]? from e8];exact h
 have r4:=ad 0 _ HU.out.1.2.1;have r5:=ad 1 _ HU.out.1.2.2.1;have z8:=a_a r4;clear ad e8 b8 a4 ba hg8 oU aL aP aE a3 ar aY HU ak a9;go_wp2_with fail
 refine (ay.out w3 _ _ _ _ _ _ aj.out.1.1 aj.out.1.2 aj.out.2.1.1 aj.out.2.1.2).mono ?_;rintro e w4 ⟨rfl,aM,aO,_⟩;have HF:Hid (SwC w4 B V tb gb vb N s2.1 s2.2/\Below B w w4):=⟨aM,aj.out.2.2.trans aO⟩
 clear aM aO aj k0 k1 k2 k3 k4 k5 kn r4 r5 z8 ay;go_wp2;exact bodyPost_ret (v:=.int .i64 0) (by simp [results,Tryz.results46,go_sem]) rfl ⟨rfl,HF.out⟩
/-- A row that was just made: all its cells are one value. -/
theorem o_T {z:Array Value} {v:Value} (H:0 < z.size) (h:∀ i,i < z.size->z[i]?=some v) (n:Nat):madeCells z n=(List.replicate n v).toArray:=by
 apply Array.toList_inj.1;refine List.ext_getElem? fun j=>?_;by_cases D:j < n
 ·have e:=h (j % z.size) (Nat.mod_lt _ H);unfold madeCells;show _=(List.replicate n v)[j]?;rw [Array.getElem?_toList,Array.getElem?_map,Array.getElem?_range,if_pos D,List.getElem?_replicate,if_pos D];simp only [Option.map_some];rw [getElem!_def,e]
 ·rw [List.getElem?_eq_none (by rw [Array.length_toList,size_madeCells];omega),List.getElem?_eq_none (by simp;omega)]
theorem p_v {P:Program} {t e:TypeId} {z v:Value} {sz b:Nat} (O:P.underlying t=some (.slice e)) (D:(P.info? e).map (fun i=>(i.zero,i.size,i.bytes))=some (some z,sz,b)) (hb:b<=128) (R:0 < z.cells.size) (h:∀ i,i < z.cells.size->z.cells[i]?=some v) (n:Nat) (V:n<=100000) (W:World):
  (Instr.makeSlice t (.int .i64 (n:Int)) (.int .i64 (n:Int))).run P W = .ok (.slice (some ⟨W.heap.size,0,none⟩) n n) (W.alloc (.cells (List.replicate (n*sz) v).toArray e)):=by
 cases H:P.info? e with
 | none=>rw [H] at D;cases D
 | some i=>
  rw [H] at D;simp only [Option.map_some,Option.some.injEq,Prod.mk.injEq] at D;obtain ⟨L,M,U⟩:=D;have hm:b*n<=128*100000:=Nat.mul_le_mul hb V
  have I:(i.bytes:Int)*(n:Int)<=281474976710656:=by
   have q:((i.bytes*n:Nat):Int)<=281474976710656:=by rw [U];omega
   rwa [Int.natCast_mul] at q
  have J:=run_make (P:=P) W t e i z O H L .i64 .i64 n n (by omega) (Int.le_refl _) I (by omega);simp only [Int.toNat_natCast] at J;rw [J,M,o_T R h]
def MadeC (e:TypeId) (N K:Nat) (c:Value) (B:Nat) (v:Value) (W:World):Prop:=∃ b,v = .slice (some ⟨b,0,none⟩) N N/\W.heap[b]?=some (.cells (List.replicate K c).toArray e (0,0))/\B<=b
theorem MadeC.up {e:TypeId} {N K:Nat} {c:Value} {B:Nat} {v:Value} {W W':World} (h:MadeC e N K c B v W) (H:Below W.heap.size W W'):MadeC e N K c B v W':=by
 obtain ⟨b,I,D,J⟩:=h;exact ⟨b,I,(H.block _ (a_i D)).trans D,J⟩
/-- Noughts so far, nothing behind. -/
def nou (ns:List Nd) (i:Nat):Ten:=((ndN ns (i:Int)).D,List.replicate (ndN ns (i:Int)).X.length (0:Int))
def stK (ns:List Nd) (N k:Nat):List Ten:=(List.range N).map fun i=>if i < k then nou ns i else noT
theorem h_i (ns:List Nd) (N k:Nat):(stK ns N k).length=N:=by simp [stK]
theorem q_5 (ns:List Nd) (N k:Nat) (H:k < N):(stK ns N k).set k (nou ns k)=stK ns N (k+1):=by
 refine List.ext_getElem? fun j=>?_;rw [List.getElem?_set];unfold stK;by_cases D:j < N
 ·simp only [List.getElem?_map,List.getElem?_range D,Option.map_some,List.length_map,List.length_range];by_cases e:k=j
  ·subst e;rw [if_pos rfl,if_pos H,if_pos (by omega)]
  ·rw [if_neg e];by_cases h:j < k
   ·rw [if_pos h,if_pos (by omega)]
   ·rw [if_neg h,if_neg (by omega)]
 ·rw [if_neg (by omega),List.getElem?_eq_none (by simp;omega),List.getElem?_eq_none (by simp;omega)]
theorem o_U (ns:List Nd) (root:Nat):stK ns (root+1) (root+1)=(List.range (root+1)).map (nou ns):=by
 unfold stK;refine List.map_congr_left fun i D=>?_;rw [if_pos (List.mem_range.1 D)]
theorem p_w (ns:List Nd) (N k i:Nat) (H:i < N) (D:i < k):(stK ns N k)[i]?=some (nou ns i):=by
 unfold stK;rw [List.getElem?_map,List.getElem?_range H,Option.map_some,if_pos D]
theorem SwC.fresh {W:World} {B L M H D N:Nat} (ns:List Nd) (V:W.heap[L]?=some (.cells #[.pointer (some ⟨M,0,none⟩),.slice (some ⟨H,0,none⟩) N N,.slice (some ⟨D,0,none⟩) N N] 107 (0,0))) (U:W.heap[H]?=some (.cells (List.replicate (N*2) (.slice none 0 0)).toArray 64 (0,0))) (R:W.heap[D]?=some (.cells (List.replicate N (.bool false)).toArray 4 (0,0))) (O:B<=L/\B<=H/\B<=D):SwC W B L M H D N (stK ns N 0) (List.replicate N false):=by
 refine ⟨V,⟨_,U,by simp [stK],fun i t I=>?_⟩,by rw [R];simp,O,h_i _ _ _,by simp⟩;have J:i < N:=by have:=(List.getElem?_eq_some_iff.1 I).1;rw [h_i] at this;exact this
 have et:t=noT:=by
  unfold stK at I;rw [List.getElem?_map,List.getElem?_range J] at I;simpa using I.symm
 subst et;exact ⟨_,_,by rw [List.getElem?_replicate,if_pos (by omega)],by rw [List.getElem?_replicate,if_pos (by omega)],OwnK.nil _ _ _ _,OwnK.nil _ _ _ _⟩
/-- The newest gradient's numbers lie in a block of their own. -/
def s_G (W:World) (gb k:Nat):Prop:=∀ i u v,i+1 < k->W.cell? ⟨gb,i*2+1,none⟩=some u->W.cell? ⟨gb,(k - 1)*2+1,none⟩=some v->∀ b,v.ownBlock=some b->u.ownBlock≠some b
/-- One for the root. -/
theorem SwC.one {W:World} {B sb tb O vb root:Nat} {ns:List Nd} {gv:List Bool} (h:SwC W B sb tb O vb (root+1) (stK ns (root+1) (root+1)) gv) (hl:s_G W O (root+1)) (h1:(ndN ns (root:Int)).X.length=1):
  ∃ q c,W.cell? ⟨O,root*2+1,none⟩=some (.slice (some ⟨q,0,none⟩) 1 c)/\(∃ v,W.cell? ⟨q,0,none⟩=some v)/\W.frozen? ⟨q,0,none⟩=false/\B<=q/\SwC (W.setCell ⟨q,0,none⟩ (.int .i64 4294967296)) B sb tb O vb (root+1) ((stK ns (root+1) (root+1)).set root ((ndN ns (root:Int)).D,[4294967296])) gv:=by
 obtain ⟨xs,R,hk⟩:=h.hg;obtain ⟨s,u,a1,a2,a3,J⟩:=hk.2 root _ (p_w ns (root+1) (root+1) root (by omega) (by omega));have e1:(nou ns root).2 = [0]:=by unfold nou;rw [h1];rfl
 rw [e1] at J;obtain ⟨q,c,rfl,hq⟩:=J.at (by simp)
 have hc:=a_4 (i:=root*2+1) R (by simpa using a2);obtain ⟨c1,c2⟩:=J.cell rfl 0 (by simp);obtain ⟨cs,fz,H⟩:=J.obj
 have U:fz=(0,0):=by
  rcases J.2 with ⟨I,_⟩|⟨g',V,aa,I,_,h3,_⟩
  ·cases I
  ·cases I;rw [H] at h3;cases h3;rfl
 subst U;have st:Stay q W (W.setCell ⟨q,0,none⟩ (.int .i64 4294967296)):=(Stay.refl q W).set 0 _;refine ⟨q,c,hc.1,⟨_,c1⟩,c2,hq,?_⟩;have nq:∀ {b:Nat} {cs:Array Value} {e:TypeId},W.heap[b]?=some (Obj.cells cs e (0,0))->e≠23->(W.setCell ⟨q,0,none⟩ (.int .i64 4294967296)).heap[b]?=W.heap[b]?:=fun hb he=>a_T _ _ _ _ _ (d_m hb H he);refine ⟨(nq h.hs (by decide)).trans h.hs,⟨xs,(nq R (by decide)).trans R,by simp [hk.1],fun i t L=>?_⟩,(nq h.hv (by decide)).trans h.hv,h.bs,by rw [List.length_set];exact h.ll,h.lv⟩;rw [List.getElem?_set] at L;by_cases e:root=i
 ·subst e;rw [if_pos rfl,if_pos (by rw [h_i];omega)] at L;cases L;refine ⟨s,_,a1,a2,a3.stay st (a3.off_type H (by decide)),?_⟩;exact J.store rfl 0 4294967296
 ·rw [if_neg e] at L;obtain ⟨s',u',b1,b2,b3,b4⟩:=hk.2 i t L;have ab:i < root+1:=by have:=(List.getElem?_eq_some_iff.1 L).1;rw [h_i] at this;exact this
  refine ⟨s',u',b1,b2,b3.stay st (b3.off_type H (by decide)),b4.stay st ?_⟩;intro ad n' c' eu M;subst eu;have:=hl i _ _ (by omega) (a_4 (i:=i*2+1) R (by simpa using b2)).1 (by simpa using hc.1) q rfl;rcases b4.2 with ⟨I,_⟩|⟨g',V,aa,I,_⟩
  ·cases I
  ·cases I;simp only [] at M;subst M;exact this rfl
theorem s_w (ns:List Nd) (root:Nat):(sw0 ns root).1=(stK ns (root+1) (root+1)).set root ((ndN ns (root:Int)).D,[4294967296])/\(sw0 ns root).2=(List.replicate (root+1) false).set root true:=by
 rw [o_U];exact ⟨rfl,rfl⟩
theorem k_0 (B0 tb:Nat) (ns:List Nd) (hG:NodesG ns) (root:Nat) (hr:root < ns.length) (hl:ns.length<=512) (h1:(ndN ns (root:Int)).X.length=1) (w:World) (hT:TapC w B0 tb ns):
  Calls Tryz.prog 45 #[.pointer (some ⟨tb,0,none⟩),.int .i64 (root:Int)] w fun e w'=>∃ sb H J,e = .returned (.tuple #[.pointer (some ⟨sb,0,none⟩),.int .i64 0])/\SwC w' w.heap.size sb tb H J (root+1) (sw0 ns root).1 (sw0 ns root).2/\Below w.heap.size w w':=by
 have eN:((root:Int)+1)=((root+1:Nat):Int):=by omega
 obtain ⟨N,hN⟩:∃ N,root+1=N:=⟨_,rfl⟩
 rw [hN] at eN;have a5:N<=512:=by omega
 have a0:(N:Int)<=512:=by omega
 have aO:∀ W,(Instr.makeSlice 60 (.int .i64 (N:Int)) (.int .i64 (N:Int))).run Tryz.prog W = .ok (.slice (some ⟨W.heap.size,0,none⟩) N N) (W.alloc (.cells (List.replicate (N*2) (.slice none 0 0)).toArray 64)):=fun W=>p_v (z:=.agg #[.slice none 0 0,.slice none 0 0]) (b:=48) Tryz.underlying60 (by kernel_rfl) (by decide) (by decide) (fun i hi=>by
  have ak:i < 2:=hi
  match i,ak with
  | 0,_=>rfl
  | 1,_=>rfl) N (by omega) W
 have aR:∀ W,(Instr.makeSlice 105 (.int .i64 (N:Int)) (.int .i64 (N:Int))).run Tryz.prog W = .ok (.slice (some ⟨W.heap.size,0,none⟩) N N) (W.alloc (.cells (List.replicate N (.bool false)).toArray 4)):=fun W=>by
  have:=p_v (P:=Tryz.prog) (z:=.bool false) (v:=.bool false) (sz:=1) (b:=1) Tryz.underlying105 (by kernel_rfl) (by decide) (by decide) (fun i hi=>by
   have ak:i < 1:=hi
   match i,ak with
   | 0,_=>rfl) N (by omega) W
  rw [Nat.mul_one] at this;exact this
 have cV:Hid (∀ (i:Nat) W,i < N->Below w.heap.size w W->Calls Tryz.prog 25 #[.pointer (some ⟨tb,0,none⟩),.int .i64 (i:Int)] W fun e w'=>∃ v,e = .returned (.tuple #[v,.bool true])/\TRes w' W.heap.size v (ndN ns (i:Int)).D (ndN ns (i:Int)).X/\Below W.heap.size W w'):=fun i W hi hW=>b_3 B0 tb ns hG i _ (c_S (by omega)) W (hT.up hW)
 have cN:Hid (∀ (i:Nat) W v,i < N->Nums .i64 W v (ndN ns (i:Int)).D->Calls Tryz.prog 67 #[v,.int .i64 0] W fun e w'=>∃ v',e = .returned (.tuple #[v',.int .i64 0])/\TRes w' W.heap.size v' (nou ns i).1 (nou ns i).2/\Below W.heap.size W w'):=fun i W v hi hn=>by
  have gi:c_r (ndN ns (i:Int)).D (ndN ns (i:Int)).X:=hG _ (f_J (c_S (by omega)));have:=c_P v _ gi.2.1 0 W hn;rw [show l_X (ndN ns (i:Int)).D=0 from if_pos gi.1.1,show d_S (ndN ns (i:Int)).D=(nou ns i).1 from if_pos gi.1.1,show l_Y (ndN ns (i:Int)).D 0=(nou ns i).2 from (if_pos gi.1.1).trans (by unfold nou;rw [gi.1.2])] at this;exact this
 have H1:Hid ((ndN ns (root:Int)).X.length=1/\root+1=N):=⟨h1,hN⟩
 have e0:=s_w ns root;rw [e0.1,e0.2,hN];have a6:root < N:=by omega
 have aZ:(root:Int) < (N:Int):=by omega
 haveI:Nonempty World:=⟨w⟩
 clear e0 h1 hT hG hr hl hN;go_enter Tryz.func45,Tryz.ntmps45;go_wp2_with fail
 refine rel [⟨3,15,MadeC 64 N (N*2) (.slice none 0 0) w.heap.size⟩,⟨6,18,MadeC 4 N N (.bool false) w.heap.size⟩] 7 68 (by kernel_rfl) rfl rfl (by kernel_rfl) (by rfl) ?_ ?_
 ·intro e he v W W' h hb;simp only [List.mem_cons,List.not_mem_nil,or_false] at he;rcases he with rfl|rfl
  ·exact MadeC.up h hb
  ·exact MadeC.up h hb
 apply Exists.intro;refine ⟨fun x=>?_,?_,?_⟩
 ·simp only [List.take_succ_cons,List.take_zero]
  iterate 3
   refine a_n rfl rfl ?_;apply Exists.intro;refine ⟨fun F hF hf K hK=>?_,?_⟩
   ·have hFc:=hF.cell;have hFf:=hF.frozen
    go_big_quiet_op
    first|exact hK|(apply Exists.intro;refine ⟨fun _=>?_,?_⟩;(· fail);exact hK)
   (try simp only [Act.put,sA_,sB_,sC_])
  refine a_p rfl rfl ?_ ?_
  ·intro F hF hf d;have hFc:=hF.cell;have hFf:=hF.frozen;simp [a_k,a_g,go_sem,aO];exact ⟨⟨(F d).heap.size,rfl,heap_alloc_new _ _,(hF.below d).size⟩,a_b _ _⟩
  iterate 2
   (try simp only [Act.put,sA_,sB_,sC_])
   refine a_n rfl rfl ?_;apply Exists.intro;refine ⟨fun F hF hf K hK=>?_,?_⟩
   ·have hFc:=hF.cell;have hFf:=hF.frozen
    go_big_quiet_op
    first|exact hK|(apply Exists.intro;refine ⟨fun _=>?_,?_⟩;(· fail);exact hK)
  (try simp only [Act.put,sA_,sB_,sC_])
  refine a_p rfl rfl ?_ ?_
  ·intro F hF hf d;have hFc:=hF.cell;have hFf:=hF.frozen;simp [a_k,a_g,go_sem,aR];exact ⟨⟨(F d).heap.size,rfl,heap_alloc_new _ _,(hF.below d).size⟩,a_b _ _⟩
  (try simp only [Act.put,sA_,sB_,sC_])
  refine b_f ?_;exact rfl
 ·intro x;simp only [b_n,List.foldl_cons,List.foldl_nil,Act.put,sA_,sB_,sC_]
 intro z1 xs az hf;simp only [List.drop_succ_cons,List.drop_zero];obtain ⟨H,ea,aD,aM⟩:=hf _ List.mem_cons_self;obtain ⟨J,eb,aB,aa⟩:=hf _ (List.mem_cons_of_mem _ List.mem_cons_self);simp only [] at ea eb;simp only [ea,eb];have av:Hid ((z1.heap[H]?=some (.cells (List.replicate (N*2) (.slice none 0 0)).toArray 64 (0,0))/\z1.heap[J]?=some (.cells (List.replicate N (.bool false)).toArray 4 (0,0)))/\w.heap.size<=H/\w.heap.size<=J/\Below w.heap.size w z1):=⟨⟨aD,aB⟩,aM,aa,az⟩
 clear hf ea eb aD aB aM aa az aO aR;go_wp2_with fail
 generalize am:World.alloc _ _=W0;obtain ⟨sb,ag⟩:∃ b,z1.heap.size=b:=⟨_,rfl⟩
 have aw:W0.heap[z1.heap.size]?=some (.cells #[.pointer (some ⟨tb,0,none⟩),.slice (some ⟨H,0,none⟩) N N,.slice (some ⟨J,0,none⟩) N N] 107 (0,0)):=by rw [<- am];exact heap_alloc_new _ _
 have af:Below z1.heap.size z1 W0:=by rw [<- am];exact a_b _ _
 have aT:Hid (SwC W0 w.heap.size sb tb H J N (stK ns N 0) (List.replicate N false)):=by
  rw [ag] at aw;have q:=av.out;exact SwC.fresh ns aw ((af.block _ (a_i q.1.1)).trans q.1.1) ((af.block _ (a_i q.1.2)).trans q.1.2) ⟨by rw [<- ag];exact q.2.2.2.size,q.2.1,q.2.2.1⟩
 have aS:Hid (Below w.heap.size w W0):=a_c av.out.2.2.2 af;rw [ag];clear am aw af av ag
 go_loopg [26] N (fun gg i wr=>∃ (k:Nat),k<=N/\gg=N - k/\i = .int .i64 (k:Int)/\Hid (SwC wr w.heap.size sb tb H J N (stK ns N k) (List.replicate N false))/\Hid (Below w.heap.size w wr/\s_G wr H k))
 case atStart=>exact ⟨0,by omega,by omega,by first|rfl|simp,aT.out,aS.out,fun i u v hi=>absurd hi (by omega)⟩
 case round=>
  obtain ⟨k,hk,a8,rfl,HS,O⟩:=hrel;obtain ⟨I,aY⟩:∃ I:World,I=wr:=⟨_,rfl⟩
  subst aY;by_cases ah:k < N
  ·have a9:(k:Int) < (N:Int):=by omega
   go_wp2_with fail
   refine (cV.out k I ah O.out.1).mono ?_;rintro e w1 ⟨v1,rfl,⟨s1,t1,rfl,aq,aQ⟩,aG⟩;obtain ⟨p1,n1,c1,rfl⟩:=aq.form_;obtain ⟨q1,m1,e1,rfl⟩:=aQ.form_;have ao:Hid (Nums .i64 w1 (.slice p1 n1 c1) (ndN ns (k:Int)).D/\Below I.heap.size I w1):=⟨aq.nums,aG⟩
   clear aq aQ aG;go_wp2_with fail
   generalize aF:World.alloc _ _=W2;have B2:Below w1.heap.size w1 W2:=by rw [<- aF];exact a_b _ _
   have ad:Hid (Below I.heap.size I W2):=a_c ao.out.2 B2;have aC:Hid (Nums .i64 W2 (.slice p1 n1 c1) (ndN ns (k:Int)).D):=ao.out.1.up B2;clear aF B2 ao;refine (cN.out k W2 _ ah aC.out).mono ?_;rintro e w3 ⟨v3,rfl,⟨s3,t3,rfl,au,ai⟩,aP⟩;obtain ⟨p3,n3,c3,rfl⟩:=au.form_;obtain ⟨R,M,L,rfl⟩:=ai.form_;have aA:∀ j,(Value.slice R M L).ownBlock=some j->I.heap.size<=j:=fun j hj=>Nat.le_trans ad.out.size (ai.block j hj);have aJ:Hid (Below I.heap.size I w3):=a_c ad.out aP;have ae:Hid (OwnK .i64 3 w3 I.heap.size (.slice p3 n3 c3) (nou ns k).1/\OwnK .i64 23 w3 I.heap.size (.slice R M L) (nou ns k).2/\∀ j,(Value.slice R M L).ownBlock=some j->I.heap.size<=j):=⟨au.low ad.out.size,ai.low ad.out.size,aA⟩
   clear au ai aP ad aC aA;go_wp2_with fail
   generalize ax:World.alloc _ _=W4;have B4:Below w3.heap.size w3 W4:=by rw [<- ax];exact a_b _ _
   have X4:Cel W4 w3.heap.size (.slice p3 n3 c3) (.slice R M L):=(a_y ax (by simp [go_sem])).out;have ap:Hid (Below I.heap.size I W4):=a_c aJ.out B4;have ay:Hid (OwnK .i64 3 W4 I.heap.size (.slice p3 n3 c3) (nou ns k).1/\OwnK .i64 23 W4 I.heap.size (.slice R M L) (nou ns k).2/\∀ j,(Value.slice R M L).ownBlock=some j->I.heap.size<=j):=⟨ae.out.1.up B4,ae.out.2.1.up B4,ae.out.2.2⟩
   have V:=HS.out.up ap.out;obtain ⟨b0,b1,b2⟩:=V.tape;obtain ⟨an,ac,aN⟩:=V.hg;have aK:=aN.1;have aH:=V.ll;obtain ⟨va,i0,i1⟩:∃ va,W4.cell? ⟨H,k*2,none⟩=some va/\W4.frozen? ⟨H,k*2,none⟩=false:=⟨_,a_4 ac (by rw [List.getElem?_toArray];exact List.getElem?_eq_getElem (by omega))⟩
   obtain ⟨vc,i2,i3⟩:∃ va,W4.cell? ⟨H,k*2+1,none⟩=some va/\W4.frozen? ⟨H,k*2+1,none⟩=false:=⟨_,a_4 ac (by rw [List.getElem?_toArray];exact List.getElem?_eq_getElem (by omega))⟩
   have kb:=a_a b1;have kg:=a_a i0;obtain ⟨y0,y1,_,_⟩:=X4;have ky:=a_a y0;have aE:=V.bs;have ar:w.heap.size<=I.heap.size:=O.out.1.size
   have HZ:Hid (SwC ((W4.setCell ⟨H,k*2,none⟩ (.slice p3 n3 c3)).setCell ⟨H,k*2+1,none⟩ (.slice R M L)) w.heap.size sb tb H J N (stK ns N (k+1)) (List.replicate N false)/\Below w.heap.size w ((W4.setCell ⟨H,k*2,none⟩ (.slice p3 n3 c3)).setCell ⟨H,k*2+1,none⟩ (.slice R M L))/\s_G ((W4.setCell ⟨H,k*2,none⟩ (.slice p3 n3 c3)).setCell ⟨H,k*2+1,none⟩ (.slice R M L)) H (k+1)):=by
    have h:=V.set ah (ay.out.1.low ar) (ay.out.2.1.low ar);have aL:w.heap.size<=H:=aE.2.1;refine ⟨?_,((a_c O.out.1 ap.out).setCell (p:=⟨H,k*2,none⟩) aL _).setCell (p:=⟨H,k*2+1,none⟩) aL _,fun i u v hi hu hv b hb aI=>?_⟩
    ·rw [<- q_5 ns N k ah];exact h
    ·have x1:=a_m (o:=k*2) (x:=.slice p3 n3 c3) ac;have x2:=a_m (o:=k*2+1) (x:=.slice R M L) x1
     have ev:v = .slice R M L:=by
      have:=(a_4 (i:=k*2+1) (v:=.slice R M L) x2 (by rw [Array.getElem?_setIfInBounds,if_pos rfl,if_pos (by simp only [Array.size_setIfInBounds,List.size_toArray];omega)])).1;rw [show (k+1 - 1)*2+1=k*2+1 by omega] at hv;rw [this] at hv;exact (Option.some.inj hv).symm
     have h9:=ay.out.2.2 b (by rw [<- ev];exact hb);obtain ⟨s',u',a1,a2,a3,a4⟩:=(HS.out.hg.choose_spec.2).2 i _ (p_w ns N k i (by omega) (by omega));have aV:I.cell? ⟨H,i*2+1,none⟩=some u':=(a_4 (i:=i*2+1) HS.out.hg.choose_spec.1 (by simpa using a2)).1
     have aU:((W4.setCell ⟨H,k*2,none⟩ (.slice p3 n3 c3)).setCell ⟨H,k*2+1,none⟩ (.slice R M L)).cell? ⟨H,i*2+1,none⟩=W4.cell? ⟨H,i*2+1,none⟩:=by
      have e1:an.length=N*2:=by rw [aK,aH]
      rw [(a_4 (i:=i*2+1) (v:=an[i*2+1]'(by omega)) x2 (by
       have n1:k*2≠i*2+1:=by omega
       have n2:k*2+1≠i*2+1:=by omega
       rw [Array.getElem?_setIfInBounds,if_neg n2,Array.getElem?_setIfInBounds,if_neg n1,List.getElem?_toArray];exact List.getElem?_eq_getElem (by omega))).1,(a_4 (i:=i*2+1) (v:=an[i*2+1]'(by omega)) ac (by rw [List.getElem?_toArray];exact List.getElem?_eq_getElem (by omega))).1]
     have eu:u'=u:=by
      rw [aU,a_d aV ap.out] at hu;exact Option.some.inj hu
     rw [<- eu] at aI;have:=(World.ownsRow.lt a4 b aI).2;omega
   clear V ac aN aK aH aE ar ax B4 aJ ae;go_region;generalize hZ:World.drew _=Z
   have aW:Hid (SwC Z w.heap.size sb tb H J N (stK ns N (k+1)) (List.replicate N false)):=by
    have d:∀ {U:World},U.drew=Z->Below U.heap.size U Z:=fun h=>by rw [<- h];exact c_T (Below.refl _ _)
    exact HZ.out.1.up (d hZ)
   have aX:Hid (Below w.heap.size w Z/\s_G Z H (k+1)):=by
    have d:∀ {U:World},U.drew=Z->Below U.heap.size U Z:=fun h=>by rw [<- h];exact c_T (Below.refl _ _)
    refine ⟨a_c HZ.out.2.1 (d hZ),fun i u v hi hu hv=>?_⟩;rw [<- hZ] at hu hv;exact HZ.out.2.2 i u v hi hu hv
   clear hZ HZ;go_wp2;go_roundg (N - (k+1))
   case measure=>omega
   case rel=>exact ⟨k+1,by omega,rfl,by first|rfl|simp,aW,aX⟩
  ·obtain rfl:k=N:=by omega
   have aj:=H1.out.1;obtain rfl:=H1.out.2;obtain ⟨q,c,d0,⟨a7,d1⟩,d2,d3,ab⟩:=HS.out.one O.out.2 aj;obtain ⟨b0,b1,b2⟩:=HS.out.tape;have kb:=a_a b1;have kd:=a_a d0;have kq:=a_a d1;have st:Stay q I (I.setCell ⟨q,0,none⟩ (.int .i64 4294967296)):=(Stay.refl q I).set 0 _;obtain ⟨n0,n1,n2⟩:=ab.tape;obtain ⟨v0,v1⟩:=ab.flag (i:=root) (by omega);have kn:=a_a n0;have kv:=a_a v0;have aa:=ab.bs.2.2;have HF:Hid (SwC ((I.setCell ⟨q,0,none⟩ (.int .i64 4294967296)).setCell ⟨J,root,none⟩ (.bool true)) w.heap.size sb tb H J (root+1) ((stK ns (root+1) (root+1)).set root ((ndN ns (root:Int)).D,[4294967296])) ((List.replicate (root+1) false).set root true)/\Below w.heap.size w ((I.setCell ⟨q,0,none⟩ (.int .i64 4294967296)).setCell ⟨J,root,none⟩ (.bool true))):=⟨ab.mark root,(O.out.1.setCell (p:=⟨q,0,none⟩) d3 _).setCell (p:=⟨J,root,none⟩) aa _⟩
   clear ab st HS O aj d3 aa eN H1;go_wp2;exact bodyPost_ret (v:=.tuple #[.pointer (some ⟨sb,0,none⟩),.int .i64 0]) (by simp [results,Tryz.results45,go_sem]) rfl ⟨sb,H,J,rfl,HF.out⟩
theorem SwC.own {W:World} {B sb tb H L N:Nat} {l:List Ten} {V:List Bool} (h:SwC W B sb tb H L N l V) (hN:N<=1000):OwnTs W B (.slice (some ⟨H,0,none⟩) N N) l:=by
 obtain ⟨xs,U,D⟩:=h.hg;have e:=h.ll;refine ⟨xs,?_,D.1,fun i t R=>?_⟩
 ·rw [e];refine ⟨by rw [D.1,e],.inr ⟨H,N,xs.toArray,rfl,h.bs.2.1,U,Nat.le_refl _,by unfold maxLen;omega,by simp [D.1,e],by rw [List.take_of_length_le (by simp [D.1,e])]⟩⟩
 ·obtain ⟨s,u,J,M,O,I⟩:=D.2 i t R;refine ⟨s,u,?_,O,I⟩;refine List.ext_getElem? fun j=>?_;rw [List.getElem?_take]
  match j with
  | 0=>rw [if_pos (by omega),List.getElem?_drop];exact J
  | 1=>rw [if_pos (by omega),List.getElem?_drop];exact M
  | j+2=>rw [if_neg (by omega)];rfl
theorem k_1 (B H:Nat) (ns:List Nd) (hG:NodesG ns) (hV:NodesV ns) (ad:NodesK ns) (hl:ns.length<=512) (root:Int) (w:World) (hT:TapC w B H ns) (af:Hid (Tz w)):
  Calls Tryz.prog 24 #[.pointer (some ⟨H,0,none⟩),.int .i64 root] w fun e R=>∃ v,e = .returned (.tuple #[v,.int .i64 (swE ns root)])/\OwnTs R w.heap.size v (swL ns root)/\Below w.heap.size w R:=by
 by_cases hn:0<=root/\root < (ns.length:Int);rotate_left
 ·have eE:swE ns root=1:=if_neg hn;have eL:swL ns root = []:=if_neg (by rw [eE];omega);rw [eE,eL];have cV:Hid (Calls Tryz.prog 25 #[.pointer (some ⟨H,0,none⟩),.int .i64 root] w fun e R=>e = .returned (.tuple #[.agg #[.slice none 0 0,.slice none 0 0],.bool false])/\Below w.heap.size w R):=e_Y B H ns root (by omega) w hT;clear hT af hn eE eL hG hV ad hl;go_enter Tryz.func24,Tryz.ntmps24;go_wp2_with fail
  refine cV.out.mono ?_;rintro e w1 ⟨rfl,U⟩;clear cV;go_wp2;exact bodyPost_ret (v:=.tuple #[.slice none 0 0,.int .i64 1]) (by simp [results,Tryz.results24,go_sem]) rfl ⟨_,rfl,OwnTs.nil _ _,a_c U (a_b _ _)⟩
 obtain ⟨r,rfl⟩:∃ r:Nat,root=(r:Int):=⟨root.toNat,by omega⟩
 have V:r < ns.length:=by omega
 have cV:Hid (Calls Tryz.prog 25 #[.pointer (some ⟨H,0,none⟩),.int .i64 (r:Int)] w fun e R=>∃ v,e = .returned (.tuple #[v,.bool true])/\TRes R w.heap.size v (ndN ns (r:Int)).D (ndN ns (r:Int)).X/\Below w.heap.size w R):=b_3 B H ns hG r _ (c_S V) w hT;obtain ⟨L,eL⟩:∃ L,(ndN ns (r:Int)).X.length=L:=⟨_,rfl⟩
 by_cases hL:L=1;rotate_left
 ·have eE:swE ns (r:Int)=4:=(if_pos hn).trans (if_neg (by rw [eL];exact hL));have ac:swL ns (r:Int) = []:=if_neg (by rw [eE];omega);rw [eE,ac];have av:((L:Int)==1)=false:=by simp;omega
  have HL:Hid ((ndN ns (r:Int)).X.length=L):=eL;clear hT af hn eE ac hG hV ad hl V eL hL;go_enter Tryz.func24,Tryz.ntmps24;go_wp2_with fail
  refine cV.out.mono ?_;rintro e w1 ⟨v1,rfl,⟨s1,t1,rfl,aa,ab⟩,U⟩;obtain ⟨p1,n1,c1,rfl⟩:=aa.form_;obtain ⟨q1,e1,rfl,_⟩:=ab.nums.view;rw [HL.out];clear cV aa ab;go_wp2;exact bodyPost_ret (v:=.tuple #[.slice none 0 0,.int .i64 4]) (by simp [results,Tryz.results24,go_sem]) rfl ⟨_,rfl,OwnTs.nil _ _,a_c U (a_b _ _)⟩
 subst hL;have eE:swE ns (r:Int)=0:=(if_pos hn).trans (if_pos eL);have ac:swL ns (r:Int)=(swK ns r (r+1)).1:=if_pos eE;rw [eE,ac];have HL:Hid ((ndN ns (r:Int)).X.length=1/\r < 512):=⟨eL,by omega⟩
 have cS:Hid (∀ W,Below w.heap.size w W->Calls Tryz.prog 45 #[.pointer (some ⟨H,0,none⟩),.int .i64 (r:Int)] W fun e R=>∃ sb O vb,e = .returned (.tuple #[.pointer (some ⟨sb,0,none⟩),.int .i64 0])/\SwC R W.heap.size sb H O vb (r+1) (sw0 ns r).1 (sw0 ns r).2/\Below W.heap.size W R):=fun W hW=>k_0 B H ns hG r V hl eL W (hT.up hW)
 have cP:Hid (∀ (k i sb O vb J:Nat) W,k<=r->i=r - k->J<=W.heap.size->Below w.heap.size w W->SwC W J sb H O vb (r+1) (swK ns r k).1 (swK ns r k).2->Calls Tryz.prog 46 #[.pointer (some ⟨sb,0,none⟩),.int .i64 (i:Int)] W fun e R=>e = .returned (.int .i64 0)/\SwC R J sb H O vb (r+1) (swK ns r (k+1)).1 (swK ns r (k+1)).2/\Below J W R):=fun k i sb O vb J W hk hi hB hW hS=>by
  subst hi;exact n_d J B H ns hG hV ad r (r - k) V (by omega) (swK ns r k) (q_A hG hV V eL k) sb O vb W (hT.up hW) (Hid.up_tz af hW) hS hB
 have aw:(r:Int) < 512:=by omega
 haveI:Nonempty World:=⟨w⟩
 clear hT af hn eE ac hG hV ad hl V eL;go_enter Tryz.func24,Tryz.ntmps24;go_wp2_with fail
 refine cV.out.mono ?_;rintro e w1 ⟨v1,rfl,⟨s1,t1,rfl,aa,ab⟩,U⟩;obtain ⟨p1,n1,c1,rfl⟩:=aa.form_;obtain ⟨q1,e1,rfl,_⟩:=ab.nums.view;rw [HL.out.1];have aj:Hid (Below w.heap.size w w1):=U;clear cV aa ab U;go_wp2_with fail
 generalize ak:World.alloc _ _=W2
 have ae:Hid (Below w.heap.size w W2):=by
  show Below _ _ _;rw [<- ak];exact a_c aj.out (a_b _ _)
 clear ak aj;refine (cS.out W2 ae.out).mono ?_;rintro e w3 ⟨sb,O,vb,rfl,ai,ah⟩;have M:Hid (SwC w3 W2.heap.size sb H O vb (r+1) (swK ns r 0).1 (swK ns r 0).2/\Below w.heap.size w w3/\W2.heap.size<=w3.heap.size/\w.heap.size<=W2.heap.size):=⟨ai,a_c ae.out ah,ah.size,ae.out.size⟩
 obtain ⟨J,am⟩:∃ J,W2.heap.size=J:=⟨_,rfl⟩
 rw [am] at M;clear ai ah ae am cS;go_wp2_with fail
 go_loopg [10] (r+1) (fun gg i wr=>∃ (k:Nat),k<=r+1/\gg=r+1 - k/\i = .int .i64 ((r:Int) - (k:Int))/\Hid (SwC wr J sb H O vb (r+1) (swK ns r k).1 (swK ns r k).2)/\Hid (Below w.heap.size w wr/\J<=wr.heap.size))
 case atStart=>exact ⟨0,by omega,by omega,by first|rfl|simp,M.out.1,M.out.2.1,M.out.2.2.1⟩
 case round=>
  obtain ⟨k,hk,ar,rfl,HS,I⟩:=hrel;obtain ⟨R1,ap⟩:∃ R1:World,R1=wr:=⟨_,rfl⟩
  subst ap;by_cases au:k < r+1
  ·obtain ⟨i,ei⟩:∃ i:Nat,(r:Int) - (k:Int)=(i:Int):=⟨r - k,by omega⟩
   rw [ei];have aq:(i:Int) < 512:=by omega
   have ao:Hid (i=r - k):=by show _=_;omega
   have HE:Hid ((i:Int) - 1=(r:Int) - ((k+1:Nat):Int)):=by show _=_;omega
   clear ei;go_wp2_with fail
   refine (cP.out k i sb O vb J R1 (by omega) ao.out I.out.2 I.out.1 HS.out).mono ?_;rintro e w4 ⟨rfl,an,ag⟩;have H4:Hid (SwC w4 J sb H O vb (r+1) (swK ns r (k+1)).1 (swK ns r (k+1)).2):=an;have H5:Hid (Below w.heap.size w w4/\J<=w4.heap.size):=⟨I.out.1.trans (ag.mono M.out.2.2.2),Nat.le_trans I.out.2 ag.size⟩
   clear an ag HS I;go_wp2;go_roundg (r+1 - (k+1))
   case measure=>omega
   case rel=>exact ⟨k+1,by omega,rfl,by rw [<- HE.out],H4,H5⟩
  ·obtain rfl:k=r+1:=by omega
   have ei:(r:Int) - ((r+1:Nat):Int) = -1:=by omega
   rw [ei];obtain ⟨b0,b1,b2⟩:=HS.out.tape;have kb:=a_a b0;have HF:Hid (OwnTs R1 w.heap.size (.slice (some ⟨O,0,none⟩) (r+1) (r+1)) (swK ns r (r+1)).1/\Below w.heap.size w R1):=⟨(HS.out.own (by have:=HL.out.2;omega)).low M.out.2.2.2,I.out.1⟩
   clear HS I ei;go_wp2;exact bodyPost_ret (v:=.tuple #[.slice (some ⟨O,0,none⟩) (r+1) (r+1),.int .i64 0]) (by simp [results,Tryz.results24,go_sem]) rfl ⟨_,rfl,HF.out⟩
theorem k_2 (B L:Nat) (ns:List Nd) (hG:NodesG ns) (hl:ns.length<=512) (k o cl:Int) (hk:1<=k/\k<=3) (px p:Option Addr) (nx cx n c:Nat) (y:List Int) (hy:RI y) (w:World) (hT:TapC w B L ns) (ac:Hid (∀ W,Below B w W->Tz W)) (h:KeptL B w (.slice p n c) y):
  Calls Tryz.prog 23 #[.pointer (some ⟨L,0,none⟩),.int .i64 o,.int .i64 k,.agg #[.slice px nx cx,.slice p n c,.int .i64 cl]] w fun e J=>e = .returned (.tuple #[.int .i64 (gkR k o cl ns y),.int .i64 (gkE k o cl ns y)])/\TapC J B L (gkN k o cl ns y)/\Below B w J/\Only SC w J/\Spar2 L w J:=by
 haveI:Nonempty World:=⟨w⟩
 have HZ:Hid (B<=w.heap.size):=by
  obtain ⟨hb,_,_,hv,_⟩:=hT;exact Nat.le_trans hb (Nat.le_of_lt (a_i hv))
 have c1:Hid (k=1->∀ W,Below w.heap.size w W->Calls Tryz.prog 42 #[.pointer (some ⟨L,0,none⟩),.int .i64 o,.slice p n c] W fun e J=>e = .returned (.tuple #[.int .i64 (gkR k o cl ns y),.int .i64 (gkE k o cl ns y)])/\TapC J B L (gkN k o cl ns y)/\Below B W J/\Only SC W J/\Spar2 L W J):=fun e W hW=>by
  have:=j_a B L ns hG hl o p n c y hy W (hT.up hW) (show Hid _ from fun W' ab=>ac.out W' ((hW.mono HZ.out).trans ab)) (h.up (hW.mono HZ.out) (Only.of hW));subst e;exact this
 have c2:Hid (k=2->∀ W,Below w.heap.size w W->Calls Tryz.prog 43 #[.pointer (some ⟨L,0,none⟩),.int .i64 o,.slice p n c] W fun e J=>e = .returned (.tuple #[.int .i64 (gkR k o cl ns y),.int .i64 (gkE k o cl ns y)])/\TapC J B L (gkN k o cl ns y)/\Below B W J/\Only SC W J/\Spar2 L W J):=fun e W hW=>by
  have:=n_c B L ns hG hl o p n c y hy W (hT.up hW) (show Hid _ from fun W' ab=>ac.out W' ((hW.mono HZ.out).trans ab)) (h.up (hW.mono HZ.out) (Only.of hW));subst e;exact this
 have c3:Hid (k=3->∀ W,Below w.heap.size w W->Calls Tryz.prog 44 #[.pointer (some ⟨L,0,none⟩),.int .i64 o,.int .i64 cl] W fun e J=>e = .returned (.tuple #[.int .i64 (gkR k o cl ns y),.int .i64 (gkE k o cl ns y)])/\TapC J B L (gkN k o cl ns y)/\Below B W J/\Only SC W J/\Spar2 L W J):=fun e W hW=>by
  have:=k_Z B L ns hG hl o cl W (hT.up hW) (show Hid _ from fun W' ab=>ac.out W' ((hW.mono HZ.out).trans ab));subst e;exact this
 obtain ⟨R,eR⟩:∃ R,gkR k o cl ns y=R:=⟨_,rfl⟩
 obtain ⟨E,eE⟩:∃ R,gkE k o cl ns y=R:=⟨_,rfl⟩
 obtain ⟨NS,eN⟩:∃ R,gkN k o cl ns y=R:=⟨_,rfl⟩
 rw [eR,eE,eN] at c1 c2 c3 ⊢;clear eR eE eN hT ac h hy hG hl;go_enter Tryz.func23,Tryz.ntmps23;have aa:Hid (∀ W J,Below w.heap.size w W->(TapC J B L NS/\Below B W J/\Only SC W J/\Spar2 L W J)->TapC J B L NS/\Below B w J/\Only SC w J/\Spar2 L w J):=fun W J hW h=>⟨h.1,(hW.mono HZ.out).trans h.2.1,(Only.of hW).trans h.2.2.1,Spar2.trans (Spar2.of hW) h.2.2.2 hW.size⟩
 rcases (by omega:k=1∨k=2∨k=3) with e1|e2|e3
 ·subst e1;go_wp2_with fail
  generalize M:World.alloc _ _=U;have O:Hid (Below w.heap.size w U):=by rw [<- M];exact a_b w _
  obtain ⟨g0,g1,g2⟩:U.cell? ⟨w.heap.size,0,none⟩=some (.slice px nx cx)/\U.cell? ⟨w.heap.size,1,none⟩=some (.slice p n c)/\U.cell? ⟨w.heap.size,2,none⟩=some (.int .i64 cl):=by rw [<- M];simp [go_sem]
  have kg:=a_f g0;clear M;go_wp2_with fail
  refine (c1.out (by first|rfl|trivial) U O.out).mono ?_;rintro e V ⟨rfl,h5⟩;have HF:Hid (TapC V B L NS/\Below B w V/\Only SC w V/\Spar2 L w V):=aa.out U V O.out h5;clear h5 g0 g1 g2 kg c1 c2 c3 O aa;go_wp2;go_ret2;exact ⟨rfl,HF.out⟩
 ·subst e2;go_wp2_with fail
  generalize M:World.alloc _ _=U;have O:Hid (Below w.heap.size w U):=by rw [<- M];exact a_b w _
  obtain ⟨g0,g1,g2⟩:U.cell? ⟨w.heap.size,0,none⟩=some (.slice px nx cx)/\U.cell? ⟨w.heap.size,1,none⟩=some (.slice p n c)/\U.cell? ⟨w.heap.size,2,none⟩=some (.int .i64 cl):=by rw [<- M];simp [go_sem]
  have kg:=a_f g0;clear M;go_wp2_with fail
  refine (c2.out (by first|rfl|trivial) U O.out).mono ?_;rintro e V ⟨rfl,h5⟩;have HF:Hid (TapC V B L NS/\Below B w V/\Only SC w V/\Spar2 L w V):=aa.out U V O.out h5;clear h5 g0 g1 g2 kg c1 c2 c3 O aa;go_wp2;go_ret2;exact ⟨rfl,HF.out⟩
 ·subst e3;go_wp2_with fail
  generalize M:World.alloc _ _=U;have O:Hid (Below w.heap.size w U):=by rw [<- M];exact a_b w _
  obtain ⟨g0,g1,g2⟩:U.cell? ⟨w.heap.size,0,none⟩=some (.slice px nx cx)/\U.cell? ⟨w.heap.size,1,none⟩=some (.slice p n c)/\U.cell? ⟨w.heap.size,2,none⟩=some (.int .i64 cl):=by rw [<- M];simp [go_sem]
  have kg:=a_f g0;clear M;go_wp2_with fail
  refine (c3.out (by first|rfl|trivial) U O.out).mono ?_;rintro e V ⟨rfl,h5⟩;have HF:Hid (TapC V B L NS/\Below B w V/\Only SC w V/\Spar2 L w V):=aa.out U V O.out h5;clear h5 g0 g1 g2 kg c1 c2 c3 O aa;go_wp2;go_ret2;exact ⟨rfl,HF.out⟩
theorem k_l (G:List Ten) (a b:List Int):d_G G (a++b)=d_G G a++d_G G b:=by
 unfold d_G;rw [List.flatMap_append]
theorem n_e {G:List Ten} {ps:List Int} {j:Nat} (D:j < ps.length):d_G G (ps.take (j+1))=d_G G (ps.take j)++(G.getD (ps.getD j 0).toNat noT).2:=by
 rw [List.take_add_one,List.getElem?_eq_getElem D,k_l]
 congr 1
 rw [List.getD_eq_getElem?_getD (l:=ps),List.getElem?_eq_getElem D];simp [d_G]
theorem q_6 {G:List Ten} {ps:List Int} (j:Nat):(d_G G (ps.take j)).length<=(d_G G ps).length:=by
 have h:=List.take_append_drop j ps;have:=k_l G (ps.take j) (ps.drop j);rw [h] at this;rw [this,List.length_append];omega
/-- A row of one's own, as a told thing. -/
def OwnF (B:Nat) (l:List Int) (v:Value) (W:World):Prop:=OwnK .i64 23 W B v l
theorem OwnF.up {B:Nat} {l:List Int} {v:Value} {W W':World} (h:OwnF B l v W) (D:Below W.heap.size W W'):OwnF B l v W':=OwnK.up h D
theorem k_3 (k:Int) (w:World):Calls Tryz.prog 20 #[.int .i64 k] w fun e J=>e = .returned (.bool (decide (1<=k/\k<=3)))/\J=w:=by
 by_cases D:1<=k
 ·by_cases H:k<=3
  ·rw [decide_eq_true (show 1<=k/\k<=3 from ⟨D,H⟩)];go_enter Tryz.func20,Tryz.ntmps20;go_wp2;go_ret;exact ⟨rfl,rfl⟩
  ·rw [decide_eq_false (show ¬ (1<=k/\k<=3) from fun h=>H h.2)];have I:3 < k:=by omega
   go_enter Tryz.func20,Tryz.ntmps20;go_wp2;go_ret;exact ⟨rfl,rfl⟩
 ·rw [decide_eq_false (show ¬ (1<=k/\k<=3) from fun h=>D h.1)];have I:k < 1:=by omega
  go_enter Tryz.func20,Tryz.ntmps20;go_wp2;go_ret;exact ⟨rfl,rfl⟩
theorem n_f (B N H:Nat) (L:List Ten) (D:List Int) (p4 p5:Option Addr) (c4 c5:Nat) (hN:L.length=N) (ai:N<=513) (hm:D.length=H) (ah:H<=512) (hb:∀ i,i∈D->0<=i/\i < (N:Int)) (hg:(d_G L D).length<=1048576) (w:World) (h1:OwnTs w B (.slice p4 N c4) L) (h2:Nums .i64 w (.slice p5 H c5) D):
  Calls Tryz.prog 26 #[.slice p4 N c4,.slice p5 H c5] w fun e w'=>∃ v,e = .returned v/\OwnK .i64 23 w' w.heap.size v (d_G L D)/\Below w.heap.size w w':=by
 haveI:Nonempty World:=⟨w⟩
 have U:Hid (OwnTs w B (.slice p4 N c4) L/\Nums .i64 w (.slice p5 H c5) D/\L.length=N/\(d_G L D).length<=1048576/\D.length=H/\∀ i,i∈D->0<=i/\i < (N:Int)):=⟨h1,h2,hN,hg,hm,hb⟩
 clear h1 h2 hN hg hm hb;have H0:Hid (OwnK .i64 23 w w.heap.size (.slice none 0 0) (d_G L (D.take 0))):=OwnK.nil _ _ _ _;go_enter Tryz.func26,Tryz.ntmps26;go_wp2_with fail
 go_loopg [5,10] H (fun gg rv i wr=>∃ (j:Nat),j<=H/\gg=H - j/\i = .int .i64 (j:Int)/\Hid (OwnK .i64 23 wr w.heap.size rv (d_G L (D.take j)))/\Hid (Below w.heap.size w wr))
 case atStart=>exact ⟨0,by omega,by omega,by first|rfl|simp,H0,Below.refl _ _⟩
 case round=>
  obtain ⟨j,hj,hg,rfl,HR,I⟩:=hrel;by_cases R:j < H
  ·have aj:(j:Int) < (H:Int):=by omega
   have ag:(j:Int) < 512:=by omega
   obtain ⟨_,_,_,e9,V⟩:=(U.out.2.1.up I.out).lst;cases e9;obtain ⟨q,o,rfl,hc⟩:=V.out.2 j R;obtain ⟨x,ex⟩:∃ x,D.getD j 0=x:=⟨_,rfl⟩
   rw [ex] at hc;have J:=U.out.2.2.2.2.1
   have aa:x∈D:=by
    rw [<- ex,List.getD_eq_getElem?_getD,List.getElem?_eq_getElem (by rw [J];exact R)];exact List.getElem_mem _
   obtain ⟨ae,ak⟩:=U.out.2.2.2.2.2 x aa;obtain ⟨M,af⟩:=Int.eq_ofNat_of_zero_le ae;subst af;have ad:M < L.length:=by rw [U.out.2.2.1];omega
   have hi:L[M]?=some (L.getD M noT):=by rw [List.getD_eq_getElem?_getD,List.getElem?_eq_getElem ad];rfl
   obtain ⟨q4,s4,u4,ep,y0,y1,_,hu⟩:=(U.out.1.up I.out).at M _ hi;subst ep;obtain ⟨pu,nu,cu,eu⟩:=hu.form_;subst eu
   have eg:d_G L (D.take (j+1))=d_G L (D.take j)++(L.getD M noT).2:=by
    rw [n_e (by rw [J];exact R),ex,Int.toNat_natCast]
   have O:(d_G L (D.take j)).length+(L.getD M noT).2.length<=1073741824:=by
    have:=q_6 (G:=L) (ps:=D) (j+1);rw [eg,List.length_append] at this;have:=U.out.2.2.2.1;omega
   have HX:Hid (d_G L (D.take (j+1))=d_G L (D.take j)++(L.getD M noT).2/\Nums .i64 wr (.slice pu nu cu) (L.getD M noT).2/\(d_G L (D.take j)).length+(L.getD M noT).2.length<=1073741824):=⟨eg,hu.nums,O⟩
   have k0:=a_f hc;have k1:=a_f y0;clear eg O hu V hi ex aa J;go_wp2_with (at_builtin;refine a_F k_u (by decide) rfl (.tmp 14) (.tmp 19) rfl w.heap.size _ _ rfl HR.out _ _ rfl HX.out.2.1 HX.out.2.2 I.out.size w I.out ?_;intro v6 w6 H6 B6)
   have ab:Hid (OwnK .i64 23 w6 w.heap.size v6 (d_G L (D.take (j+1)))/\Below w.heap.size w w6):=⟨by rw [HX.out.1];exact H6.out,B6⟩
   clear H6 B6 HX;go_wp2;go_roundg (H - (j+1))
   case measure=>omega
   case rel=>exact ⟨j+1,by omega,rfl,by first|rfl|simp,ab.out.1,ab.out.2⟩
  ·obtain rfl:j=H:=by omega
   have ac:Hid (OwnK .i64 23 wr w.heap.size u5 (d_G L D)):=by
    have:=HR.out;rw [<- U.out.2.2.2.2.1,List.take_length] at this;exact this
   clear HR;go_wp2;exact bodyPost_ret (v:=u5) (by simp [results,Tryz.results26,go_sem]) rfl ⟨_,rfl,ac.out,I.out⟩
theorem s_x (d:List Int) (ls:List Ly) (k:Int) (P X y:List Int) (cl:Int) (ap:nE d ls=0->∀ st,st∈(plF d ls (nS d ls) P X ls.length).1->st.op≠1->RkC st.op) (aK:nE d ls=0->∀ st,st∈(plF d ls (nS d ls) P X ls.length).1->st.op≠1->GvC st.op) (p p2 pp px py:Option Addr) (n c n2 c2 np cp nx cx ny cy:Nat) (aF:n2<=1073741823) (aX:np<=1048576) (w:World) (hT:Hid (Tz w)) (hK:Hid (Kz w)) (aw:Nums .i64 w (.slice p n c) d) (aD:LyR 0 w p2 n2 ls) (hp:RowI w pp np cp P) (hx:RowI w px nx cx X) (hy:RowI w py ny cy y):
  Calls Tryz.prog 9 #[.agg #[.slice p n c,.slice p2 n2 c2],.int .i64 k,.slice pp np cp,.agg #[.slice px nx cx,.slice py ny cy,.int .i64 cl]] w fun e w'=>∃ v,e = .returned (.tuple #[v,.int .i64 (gof d ls k P X y cl).2.2,.int .i64 (gof d ls k P X y cl).1])/\OwnK .i64 23 w' w.heap.size v (gof d ls k P X y cl).2.1/\Below w.heap.size w w':=by
 haveI:Nonempty World:=⟨w⟩
 have HN:Hid (Nums .i64 w (.slice p n c) d/\LyR 0 w p2 n2 ls/\RowI w pp np cp P/\RowI w px nx cx X/\RowI w py ny cy y):=⟨aw,aD,hp,hx,hy⟩
 have a0:P.length=np:=by
  obtain ⟨_,_,_,e,h⟩:=hp.1.lst;cases e;exact h.out.1
 have hO:RnO (rnF d ls [] P X) P:=s_g hp.2.1 hx.2.1 aK;have HO:Hid (RnO (rnF d ls [] P X) P):=hO;have ar:Hid (nE d ls=0->∀ st,st∈(plF d ls (nS d ls) P X ls.length).1->st.op≠1->RkC st.op):=ap;obtain ⟨T,eT⟩:∃ T,gof d ls k P X y cl=T:=⟨_,rfl⟩
 have HT:Hid (gof d ls k P X y cl=T):=eT;rw [eT];clear eT aw aD hp hx hy hO ap aK;go_enter Tryz.func9,Tryz.ntmps9;go_wp2_with fail
 generalize ag:World.alloc _ _=O;have J:Hid (Below w.heap.size w O):=by rw [<- ag];exact g_a (a_b w _) _
 obtain ⟨g0,g1,x0,x1,x2⟩:O.cell? ⟨w.heap.size,0,none⟩=some (.slice p n c)/\O.cell? ⟨w.heap.size,1,none⟩=some (.slice p2 n2 c2)/\O.cell? ⟨w.heap.size+1,0,none⟩=some (.slice px nx cx)/\O.cell? ⟨w.heap.size+1,1,none⟩=some (.slice py ny cy)/\O.cell? ⟨w.heap.size+1,2,none⟩=some (.int .i64 cl):=by rw [<- ag];simp [go_sem]
 have HG:Hid (O.cell? ⟨w.heap.size+1,0,none⟩=some (.slice px nx cx)/\O.cell? ⟨w.heap.size+1,1,none⟩=some (.slice py ny cy)/\O.cell? ⟨w.heap.size+1,2,none⟩=some (.int .i64 cl)):=⟨x0,x1,x2⟩
 clear ag;refine (k_3 k O).mono ?_;rintro e w1 ⟨rfl,aH⟩;rw [aH];clear aH;by_cases hk:1<=k/\k<=3
 case neg=>
  have et:T=(1,[],0):=by rw [<- HT.out];exact if_neg hk
  subst et;rw [decide_eq_false hk];go_wp2;exact bodyPost_ret (v:=.tuple #[.slice none 0 0,.int .i64 0,.int .i64 1]) (by simp [results,Tryz.results9,go_sem]) rfl ⟨_,rfl,OwnK.nil _ _ _ _,J.out⟩
 rw [decide_eq_true hk];obtain ⟨aB,az⟩:=hk;go_wp2_with fail
 refine (o_l _).mono ?_;rintro e w1 ⟨tb,rfl,aL,V⟩;have H1:Hid (TapC w1 O.heap.size tb []/\Below O.heap.size O w1):=⟨aL,V⟩
 replace g0:=a_h V g0;replace g1:=a_h V g1;replace x0:=a_h V x0;replace x1:=a_h V x1;replace x2:=a_h V x2;have kg:=a_f g0;have kx:=a_f x0;clear aL V;go_wp2_with fail
 obtain ⟨R,eR⟩:∃ R,rnF d ls [] P X=R:=⟨_,rfl⟩
 have cc:=q_S O.heap.size tb [] NodesG.nil (by simp) d ls P X HN.out.2.2.1.2.1 HN.out.2.2.2.1.2.1 ar.out p p2 pp px n c n2 c2 np cp nx cx aF (by omega) w1 H1.out.1 (show Hid _ from fun W hW=>hT.out.up (a_c J.out (H1.out.2.trans hW))) (Hid.up_kz hK (a_c J.out H1.out.2)) (fun W' hR=>HN.out.1.up (a_c J.out (H1.out.2.trans hR.bel))) (fun W' hR=>HN.out.2.1.up (a_c J.out (H1.out.2.trans hR.bel))) (fun W' hR=>HN.out.2.2.1.1.up (a_c J.out (H1.out.2.trans hR.bel))) HN.out.2.2.1.2.2 (fun W' hR=>HN.out.2.2.2.1.1.up (a_c J.out (H1.out.2.trans hR.bel)));have ad:Hid (RnO R P):=by rw [<- eR];exact HO.out
 have ak:Hid (gfR k cl y R=T):=by show _=_;rw [<- eR,<- HT.out];exact (if_pos ⟨aB,az⟩).symm
 rw [eR] at cc;clear eR HO HT ar;refine cc.mono ?_;rintro e w2 ⟨v2,rfl,am,an,ao⟩;obtain ⟨RE,RN,Rl,U⟩:=R;dsimp only at am an;have H2:Hid (TapC w2 O.heap.size tb RN/\Below O.heap.size O w2/\OwnK .i64 3 w2 w1.heap.size v2 U):=⟨an,H1.out.2.trans ao,am⟩
 have aY:Hid (O.heap.size<=w1.heap.size):=H1.out.2.size;replace x0:=a_d HG.out.1 H2.out.2.1;replace x1:=a_d HG.out.2.1 H2.out.2.1;replace x2:=a_d HG.out.2.2 H2.out.2.1;replace kx:=a_f x0;clear cc am an ao g0 g1 kg H1;by_cases hE:RE=0
 case neg=>
  have et:T=(RE,[],0):=by rw [<- ak.out];exact if_neg hE
  subst et;have aA:(RE != 0)=true:=by simpa using hE
  go_wp2;exact bodyPost_ret (v:=.tuple #[.slice none 0 0,.int .i64 0,.int .i64 RE]) (by simp [results,Tryz.results9,go_sem]) rfl ⟨_,rfl,OwnK.nil _ _ _ _,a_c J.out H2.out.2.1⟩
 subst hE;go_wp2_with fail
 have cc:=k_2 O.heap.size tb RN ad.out.g ad.out.l k Rl cl ⟨aB,az⟩ px py nx cx ny cy y HN.out.2.2.2.2.2.1 w2 H2.out.1 (show Hid _ from fun W hW=>hT.out.up (a_c J.out (H2.out.2.1.trans hW))) (fun W' hb _=>HN.out.2.2.2.2.1.up (a_c J.out (H2.out.2.1.trans hb)));obtain ⟨E,eE⟩:∃ R,gkE k Rl cl RN y=R:=⟨_,rfl⟩
 obtain ⟨r,er⟩:∃ R,gkR k Rl cl RN y=R:=⟨_,rfl⟩
 obtain ⟨N,eN⟩:∃ R,gkN k Rl cl RN y=R:=⟨_,rfl⟩
 have ay:Hid (E=0->GkO N r U P.length):=fun h0=>by
  have:=ad.out.gk (k:=k) (cl:=cl) HN.out.2.2.2.2.2.1 rfl (by rw [<- h0];exact eE);dsimp only at this;rw [er,eN] at this;exact this
 have ac:Hid (T=if E=0 then gfT N r U else (E,[],0)):=by
  show _=_;rw [<- ak.out];unfold gfR;dsimp only;rw [if_pos rfl,eE,eN,er]
 rw [eE,er,eN] at cc;clear eE er eN ad ak;refine cc.mono ?_;rintro e w3 ⟨rfl,aM,aI,av,_⟩;have H3:Hid (TapC w3 O.heap.size tb N/\Below O.heap.size O w3/\OwnK .i64 3 w3 w1.heap.size v2 U):=⟨aM,H2.out.2.1.trans aI,H2.out.2.2.only av (by decide)⟩
 clear cc aM aI av H2 x0 x1 x2 kx;by_cases hE:E=0
 case neg=>
  have et:T=(E,[],0):=by rw [ac.out];exact if_neg hE
  clear ac;subst et;have aA:(E != 0)=true:=by simpa using hE
  go_wp2;exact bodyPost_ret (v:=.tuple #[.slice none 0 0,.int .i64 0,.int .i64 E]) (by simp [results,Tryz.results9,go_sem]) rfl ⟨_,rfl,OwnK.nil _ _ _ _,a_c J.out H3.out.2.1⟩
 subst hE;have G:=ay.out rfl;have I:Hid (GkO N r U P.length):=G;have ae:Hid (T=gfT N r U):=ac.out.trans (if_pos rfl);clear ac ay G;go_wp2_with fail
 have cc:=k_1 O.heap.size tb N I.out.g I.out.v I.out.k I.out.l r w3 H3.out.1 (Hid.up_tz hT (a_c J.out H3.out.2.1));obtain ⟨E,eE⟩:∃ E,swE N r=E:=⟨_,rfl⟩
 obtain ⟨L,eL⟩:∃ L,swL N r=L:=⟨_,rfl⟩
 rw [eE,eL] at cc;refine cc.mono ?_;rintro e w4 ⟨v4,rfl,aj,ab⟩;obtain ⟨p4,c4,rfl,aQ⟩:=aj.form;have H4:Hid (TapC w4 O.heap.size tb N/\Below O.heap.size O w4/\OwnK .i64 3 w4 w1.heap.size v2 U/\OwnTs w4 w3.heap.size (.slice p4 L.length c4) L):=⟨H3.out.1.up ab,a_c H3.out.2.1 ab,H3.out.2.2.up ab,aj⟩
 have HE:Hid (swE N r=E/\swL N r=L):=⟨eE,eL⟩
 clear cc aj ab H3 eE eL;by_cases hE:E=0
 case neg=>
  have et:T=(E,[],0):=by rw [ae.out];unfold gfT;rw [HE.out.1,if_neg hE]
  clear ae;subst et;have aA:(E != 0)=true:=by simpa using hE
  go_wp2;exact bodyPost_ret (v:=.tuple #[.slice none 0 0,.int .i64 0,.int .i64 E]) (by simp [results,Tryz.results9,go_sem]) rfl ⟨_,rfl,OwnK.nil _ _ _ _,a_c J.out H4.out.2.1⟩
 subst hE;obtain ⟨A,eA⟩:∃ A,(ndN N r).X.getD 0 0=A:=⟨_,rfl⟩
 have et:T=(0,d_G L U,A):=by rw [ae.out];unfold gfT;rw [HE.out.1,if_pos rfl,HE.out.2,eA]
 clear ae;subst et;dsimp only;obtain ⟨s0,s1,s2,s3⟩:=s_j I.out.g I.out.v HE.out.1;rw [HE.out.2] at s2 s3;obtain ⟨ri,aV⟩:=Int.eq_ofNat_of_zero_le s0.1;subst aV;rw [Int.toNat_natCast] at s2;have HL:Hid (L.length=ri+1/\(∀ i,i∈U->0<=i/\i<=(ri:Int))/\(∀ i,i∈U->(L.getD i.toNat noT).2.length=(ndN N i).X.length)/\(d_G L U).length=P.length):=⟨s2,I.out.p,fun i hi=>(s3 i (I.out.p i hi).1 (I.out.p i hi).2).2,by rw [h_d (N:=N) fun i hi=>(s3 i (I.out.p i hi).1 (I.out.p i hi).2).2];exact I.out.n⟩
 have HV:Hid (ndN N (ri:Int)=ndN N (ri:Int)/\N[ri]?=some (ndN N (ri:Int))/\(ndN N (ri:Int)).X = [A]):=by
  refine ⟨rfl,c_S (by omega),?_⟩;obtain ⟨z,ez⟩:=List.length_eq_one_iff.1 s1;rw [ez] at eA ⊢;rw [<- eA];rfl
 have a1:(ri:Int) < 512:=by have:=I.out.l;omega
 rw [s2] at aQ ⊢;rw [show (ri+1:Nat)=ri+1 from rfl];clear s0 s1 s2 s3 eA;obtain ⟨p5,m5,c5,e5⟩:=H4.out.2.2.1.form_;subst e5
 have aq:U.length=m5:=by
  obtain ⟨_,_,_,e,h⟩:=H4.out.2.2.1.nums.lst;cases e;exact h.out.1
 have aW:m5<=512:=by rw [<- aq];exact I.out.m
 go_wp2_with fail
 refine (b_3 O.heap.size tb N I.out.g ri _ HV.out.2.1 w4 H4.out.1).mono ?_;rintro e w7 ⟨v7,rfl,h7,aG⟩;obtain ⟨s7,t7,rfl,au,O7⟩:=h7;rw [HV.out.2.2] at O7;obtain ⟨aU,aR,aP,rfl⟩:=au.form_;obtain ⟨aT,aN,rfl,_⟩:=O7.at (by show 0 < 1;omega)
 have O7:Hid (OwnK .i64 23 w7 w4.heap.size (.slice (some ⟨aT,0,none⟩) 1 aN) [A]):=O7;have H7:Hid (Below w4.heap.size w4 w7):=aG;obtain ⟨aS,aa⟩:∃ z,w7.heap.size=z:=⟨_,rfl⟩
 clear aG au;go_wp2_with fail
 generalize ai:World.alloc _ _=K7;have af:Below w7.heap.size w7 K7:=by rw [<- ai];exact a_b w7 _
 have X7:VBox K7 aS A:=by
  have:=VBox.new (s:=.slice aU aR aP) (A:=A) O7.out;rw [ai,aa] at this;exact this
 have J7:Hid (Below w.heap.size w K7/\w.heap.size<=K7.heap.size):=⟨a_c J.out (a_c H4.out.2.1 (a_c H7.out af)),(a_c J.out (a_c H4.out.2.1 (a_c H7.out af))).size⟩
 (try rw [aa])
 have cI:Hid (∀ W,Below K7.heap.size K7 W->Calls Tryz.prog 26 #[.slice p4 (ri+1) c4,.slice p5 m5 c5] W fun e w'=>∃ v,e = .returned v/\OwnK .i64 23 w' W.heap.size v (d_G L U)/\Below W.heap.size W w'):=fun W hW=>by
  have hh:=a_c H7.out (a_c af hW);have a:=H4.out.2.2.2.up hh;rw [HL.out.1] at a;exact n_f _ (ri+1) m5 L U p4 p5 c4 c5 HL.out.1 (by omega) aq aW (fun i hi=>by have:=HL.out.2.1 i hi;omega) (by rw [HL.out.2.2.2];omega) W a (H4.out.2.2.1.up hh).nums
 obtain ⟨g7,b7,y0,y1,y2,y3⟩:=X7.cells;have ky:=a_a y0;clear ai af aa O7 H7 H4 HL HV I HN;go_wp2_with fail
 refine rel [⟨2,64,OwnF K7.heap.size (d_G L U)⟩,⟨7,8,OwnF K7.heap.size (d_G L U)⟩] 8 69 (by kernel_rfl) rfl rfl (by kernel_rfl) (by rfl) ?_ ?_
 ·intro e he v W W' h hb;simp only [List.mem_cons,List.not_mem_nil,or_false] at he;rcases he with rfl|rfl
  ·exact OwnF.up h hb
  ·exact OwnF.up h hb
 apply Exists.intro;refine ⟨fun x=>?_,?_,?_⟩
 ·simp only [List.take_succ_cons,List.take_zero]
  iterate 2
   refine a_n rfl rfl ?_;apply Exists.intro;refine ⟨fun F hF hf K hK=>?_,?_⟩
   ·have hFc:=hF.cell;have hFf:=hF.frozen
    go_big_quiet_op
    first|exact hK|(apply Exists.intro;refine ⟨fun _=>?_,?_⟩;(· fail);exact hK)
   (try simp only [Act.put,sA_,sB_,sC_])
  refine a_p rfl rfl ?_ ?_
  ·intro F hF hf d;have hFc:=hF.cell;have hFf:=hF.frozen;simp [a_k,a_g,go_sem];refine (cI.out (F d) (hF.below d)).mono ?_;rintro e' w8 ⟨v8,rfl,h8,aO⟩;exact ⟨_,rfl,OwnK.low h8 (hF.below d).size,aO⟩
  iterate 4
   (try simp only [Act.put,sA_,sB_,sC_])
   refine a_n rfl rfl ?_;apply Exists.intro;refine ⟨fun F hF hf K hK=>?_,?_⟩
   ·have hFc:=hF.cell;have hFf:=hF.frozen
    go_big_quiet_op
    first|exact hK|(apply Exists.intro;refine ⟨fun _=>?_,?_⟩;(· fail);exact hK)
  (try simp only [Act.put,sA_,sB_,sC_])
  refine a_p rfl rfl ?_ ?_
  ·intro F hF hf d;have hFc:=hF.cell;have hFf:=hF.frozen;have h9:=hf _ List.mem_cons_self (by rfl) d;simp [a_k,a_g,go_sem];exact ⟨h9,Below.refl _ _⟩
  (try simp only [Act.put,sA_,sB_,sC_])
  refine b_f ?_;exact rfl
 ·intro x;simp only [b_n,List.foldl_cons,List.foldl_nil,Act.put,sA_,sB_,sC_]
 ·intro w9 xs ax hf;simp only [List.drop_succ_cons,List.drop_zero];have h9:=hf _ (List.mem_cons_of_mem _ List.mem_cons_self);obtain ⟨aJ,ah⟩:∃ q,xs 7=q:=⟨_,rfl⟩
  obtain ⟨aZ,aC⟩:∃ q,xs 2=q:=⟨_,rfl⟩
  simp only [ah] at h9;simp only [ah,aC];have HF:Hid (OwnK .i64 23 w9 w.heap.size aJ (d_G L U)/\Below w.heap.size w w9):=⟨OwnK.low h9 J7.out.2,a_c J7.out.1 ax⟩
  clear hf h9 ax ah aC cI y0 y1 y2 y3 X7;go_wp2;exact bodyPost_ret (v:=.tuple #[aJ,.int .i64 A,.int .i64 0]) (by simp [results,Tryz.results9,go_sem]) rfl ⟨_,rfl,HF.out⟩
theorem t_D {d:List Int} {ls:List Ly} {P:List Int} (h:PlC d ls P):OfC d ls P:=fun k X y cl p p2 pp V R n c n2 c2 np cp nx cx U cy O H w hT hK J L hp hx hy=>s_x d ls k P X y cl (fun I st D M=>(h I X st D M).1) (fun I st D M=>(h I X st D M).2) p p2 pp V R n c n2 c2 np cp nx cx U cy (by omega) H w hT hK J L hp hx hy
theorem s_y {d:List Int} {ls:List Ly} {P:List Int} (h:PlC d ls P):SumD d ls P:=t_u (t_D h) h
theorem s_z {d:List Int} {ls:List Ly} {P:List Int} (h:PlC d ls P):r_b d ls P:=(s_y h).c
theorem q_7 (d:List Int) (ls:List Ly) (P:List Int):PlC d ls P:=fun _ X st D H=>by
 rcases (m_Z _ _ _ _ _ _ st D).1 with h|h|h|h|h|h|h|h
 ·exact absurd h H
 ·rw [h];exact ⟨RkC.of (by decide) ck2,fun _=>ga2,fun _=>gb2⟩
 ·rw [h];exact ⟨RkC.of (by decide) ck4,fun _=>ga4,fun _=>gb4⟩
 ·rw [h];exact ⟨RkC.of (by decide) ck8,fun _=>ga8,fun h=>absurd h (by decide)⟩
 ·rw [h];exact ⟨RkC.of (by decide) t_C,fun _=>t_B,fun h=>absurd h (by decide)⟩
 ·rw [h];exact ⟨RkC.of (by decide) t_T,fun _=>t_O,fun _=>t_P⟩
 ·rw [h];exact ⟨RkC.of (by decide) t_U,fun _=>t_M,fun h=>absurd h (by decide)⟩
 ·rw [h];exact ⟨RkC.of (by decide) t_V,fun _=>t_L,fun h=>absurd h (by decide)⟩
end Go.Proofs.YtjlofobnmjompaaGreatDoor.Wd
