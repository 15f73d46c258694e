/- The code's sweep: a node gives on. · The -/
import Derived.Test.YtjlofobnmjompaaGreatDoorP39
set_option linter.unusedVariables false
set_option linter.unusedSimpArgs false
set_option maxHeartbeats 16000000
set_option maxRecDepth 16000
namespace Go.Proofs.YtjlofobnmjompaaGreatDoor.Wd
open Go.RowKit Fx
def TupR (B:Nat) (a b:Ten) (v:Value) (W:World):Prop:=∃ u q,v = .tuple #[u,q,.int .i64 0]/\OwnT B a.1 a.2 u W/\OwnT B b.1 b.2 q W
theorem TupR.up {B:Nat} {a b:Ten} {v:Value} {W W':World} (h:TupR B a b v W) (D:Below W.heap.size W W'):TupR B a b v W':=by
 obtain ⟨u,q,e,E,H⟩:=h;exact ⟨u,q,e,E.up D,H.up D⟩
theorem n_k (B B0 tb:Nat) (ns:List Nd) (hG:NodesG ns) (hV:NodesV ns) (aw:NodesK ns) (root i:Nat) (hr:root < ns.length) (hi:i<=root) (E:SwT) (ae:SwG ns root E) (V O vb:Nat) (w:World) (hT:TapC w B0 tb ns) (aB:Hid (Tz w)) (hS:SwC w B V tb O vb (root+1) E.1 E.2) (hB:B<=w.heap.size):
  Calls Tryz.prog 46 #[.pointer (some ⟨V,0,none⟩),.int .i64 (i:Int)] w fun e I=>e = .returned (.int .i64 0)/\SwC I B V tb O vb (root+1) (c_m ns i E).1 (c_m ns i E).2/\Below B w I:=by
 obtain ⟨N,eN⟩:∃ N,root+1=N:=⟨_,rfl⟩
 rw [eN] at hS ⊢;have a8:i < N:=by omega
 have bd:(i:Int) < (N:Int):=by omega
 obtain ⟨b0,b1,b2⟩:=hS.tape;obtain ⟨v0,v1⟩:=hS.flag a8;have kb:=a_a b0;have kv:=a_a v0;by_cases ah:E.2.getD i false=true;rotate_left
 ·have e0:c_m ns i E=E:=if_neg fun h=>ah h.1;rw [e0];have L:E.2.getD i false=false:=by simpa using ah
  rw [L] at v0;have HS:Hid (SwC w B V tb O vb N E.1 E.2):=hS;clear hS hT hG hV aw ae aB e0 L ah eN;go_enter Tryz.func46,Tryz.ntmps46;go_wp2;exact bodyPost_ret (v:=.int .i64 0) (by simp [results,Tryz.results46,go_sem]) rfl ⟨rfl,HS.out,Below.refl _ _⟩
 rw [ah] at v0;obtain ⟨⟨op,a,b,k,D,X⟩,aa⟩:∃ nd,ndN ns (i:Int)=nd:=⟨_,rfl⟩
 have ak:ns[i]?=some ⟨op,a,b,k,D,X⟩:=by rw [<- aa];exact c_S (by omega)
 obtain ⟨g,eg⟩:∃ g,E.1.getD i noT=g:=⟨_,rfl⟩
 have aY:E.1[i]?=some g:=by rw [<- eg,List.getD_eq_getElem?_getD,List.getElem?_eq_getElem (by rw [ae.l];omega)];rfl
 have hg:=ae.g i hi;rw [eg,aa] at hg;obtain ⟨gs,gu,⟨c0,f0⟩,⟨M,f1⟩,aD,av⟩:=hS.read aY;obtain ⟨p,n,c,rfl⟩:=aD.form_;obtain ⟨p2,n2,c2,rfl⟩:=av.form_;obtain ⟨RA,ao⟩:∃ R,onA op k (aOf ns ⟨op,a,b,k,D,X⟩) (bOf ns ⟨op,a,b,k,D,X⟩) g=R:=⟨_,rfl⟩
 obtain ⟨RB,aq⟩:∃ R,onB op k (aOf ns ⟨op,a,b,k,D,X⟩) (bOf ns ⟨op,a,b,k,D,X⟩) g=R:=⟨_,rfl⟩
 have aU:Hid (∀ W,Below w.heap.size w W->Calls Tryz.prog 47 #[.pointer (some ⟨tb,0,none⟩),.int .i64 (i:Int)] W fun e I=>∃ s t,e = .returned (.tuple #[.agg #[.int .i64 op,.int .i64 a,.int .i64 b,.int .i64 k,s,t],.bool true])/\OwnK .i64 3 I W.heap.size s D/\OwnK .i64 23 I W.heap.size t X/\Below W.heap.size W I):=fun W hW=>m_N B0 tb ns hG i _ ak W (hT.up hW)
 have aS:Hid (∀ W ps ac cs pt nt ct,Below w.heap.size w W->Calls Tryz.prog 68 #[.pointer (some ⟨tb,0,none⟩),.agg #[.int .i64 op,.int .i64 a,.int .i64 b,.int .i64 k,.slice ps ac cs,.slice pt nt ct],.agg #[.slice p n c,.slice p2 n2 c2]] W fun e I=>∃ u v,e = .returned (.tuple #[u,v,.int .i64 0])/\TRes I W.heap.size u RA.1 RA.2/\TRes I W.heap.size v RB.1 RB.2/\Below W.heap.size W I):=fun W ps ac cs pt nt ct hW=>by
  rw [<- ao,<- aq];exact m_P B0 tb ns hG hV aw i op a b k D X ak ps pt p p2 ac cs nt ct n c n2 c2 g hg.1 hg.2 av.cap W (hT.up hW) (Hid.up_tz aB hW) (aD.nums.up hW) (av.nums.up hW)
 obtain ⟨s1,aT,aC⟩:∃ s1:SwT,Hid (∀ W p1 q1 n1 M m1 L,SwC W B V tb O vb N E.1 E.2->B<=W.heap.size->Nums .i64 W (.slice p1 n1 M) RA.1->Nums .i64 W (.slice q1 m1 L) RA.2->Calls Tryz.prog 69 #[.pointer (some ⟨V,0,none⟩),.int .i64 a,.agg #[.slice p1 n1 M,.slice q1 m1 L]] W fun e I=>e = .returned (.int .i64 0)/\SwC I B V tb O vb N s1.1 s1.2/\Below B W I/\But2 O vb W I)
   /\ Hid (∀ W p1 q1 n1 M m1 L,SwC W B V tb O vb N s1.1 s1.2->B<=W.heap.size->Nums .i64 W (.slice p1 n1 M) RB.1->Nums .i64 W (.slice q1 m1 L) RB.2->Calls Tryz.prog 69 #[.pointer (some ⟨V,0,none⟩),.int .i64 b,.agg #[.slice p1 n1 M,.slice q1 m1 L]] W fun e I=>e = .returned (.int .i64 0)/\SwC I B V tb O vb N (c_m ns i E).1 (c_m ns i E).2/\Below B W I/\But2 O vb W I):=by
  have no:∀ (z:Int) (s:SwT),z < 0->∀ (W:World) (p1 q1:Option Addr) (n1 M m1 L:Nat),SwC W B V tb O vb N s.1 s.2->B<=W.heap.size->Calls Tryz.prog 69 #[.pointer (some ⟨V,0,none⟩),.int .i64 z,.agg #[.slice p1 n1 M,.slice q1 m1 L]] W fun e I=>e = .returned (.int .i64 0)/\SwC I B V tb O vb N s.1 s.2/\Below B W I/\But2 O vb W I:=fun z s hz W p1 q1 n1 M m1 L h hb=>by
   refine (q_6 z hz V p1 q1 n1 M m1 L W).mono ?_;rintro e I ⟨rfl,hw⟩;exact ⟨rfl,h.up hw,hw.mono hb,But2.of hw⟩
  have ay:∀ (j:Nat) (s:SwT) (R:Ten),SwG ns root s->j<=root->b_d R->R.1=(ndN ns (j:Int)).D->∀ (W:World) (p1 q1:Option Addr) (n1 M m1 L:Nat),SwC W B V tb O vb N s.1 s.2->B<=W.heap.size->Nums .i64 W (.slice p1 n1 M) R.1->Nums .i64 W (.slice q1 m1 L) R.2->Calls Tryz.prog 69 #[.pointer (some ⟨V,0,none⟩),.int .i64 (j:Int),.agg #[.slice p1 n1 M,.slice q1 m1 L]] W fun e I=>e = .returned (.int .i64 0)/\SwC I B V tb O vb N (c_B s j R).1 (c_B s j R).2/\Below B W I/\But2 O vb W I:=fun j s R hs hj hR eR W p1 q1 n1 M m1 L h hb u1 u2=>by
   have q:=hs.g j hj;exact o_Z B V tb O vb N s.1 s.2 j (by omega) (s.1.getD j noT) R (by rw [List.getD_eq_getElem?_getD,List.getElem?_eq_getElem (by rw [hs.l];omega)];rfl) q.1 hR (eR.trans q.2.symm) p1 q1 n1 M m1 L W h hb u1 u2
  have aQ:(ndN ns (i:Int)).op=op:=by rw [aa]
  by_cases ho:op=1
  ·have e0:c_m ns i E=E:=if_neg fun h=>h.2 (aQ.trans ho);rw [e0]
   have be:a = -1/\b = -1:=by
    rcases hV i _ ak with h|⟨h,_⟩
    ·exact h.2
    ·have:(2:Int)<=op:=h.1;omega
   exact ⟨E,fun W p1 q1 n1 M m1 L h hb _ _=>no a E (by omega) W p1 q1 n1 M m1 L h hb,fun W p1 q1 n1 M m1 L h hb _ _=>no b E (by omega) W p1 q1 n1 M m1 L h hb⟩
  ·obtain ⟨o1,o2⟩:=t_u hG hV ak ho hg.1 hg.2;simp only [] at o1 o2;rw [ao] at o1;rw [aq] at o2;rcases hV i _ ak with h|⟨aW,ha,hb,aE,_⟩
   ·exact absurd h.1 ho
   simp only [] at aW ha hb aE;obtain ⟨ja,rfl⟩:∃ j:Nat,a=(j:Int):=⟨a.toNat,by omega⟩
   have gA:=ae.give (j:=ja) (p:=RA) (by omega) o1.1 o1.2;have am:E.2.getD i false=true/\(ndN ns (i:Int)).op≠1:=⟨ah,by rw [aQ];exact ho⟩
   by_cases ht:d_A op
   ·have aI:=hb ht;obtain ⟨jb,rfl⟩:∃ j:Nat,b=(j:Int):=⟨b.toNat,by omega⟩
    have eD:RB.1=(ndN ns (jb:Int)).D:=(o2 ht).2.trans (show dD ns op (jb:Int)=_ by unfold dD;rw [if_pos ht])
    have e0:c_m ns i E=c_B (c_B E ja RA) jb RB:=by
     unfold c_m;rw [if_pos am,aa];simp only [];rw [if_pos aI.1,eg,ao,aq];rfl
    rw [e0];exact ⟨c_B E ja RA,ay ja E RA ae (by omega) o1.1 o1.2,ay jb _ RB gA (by omega) (o2 ht).1 eD⟩
   ·have aI:=aE ht
    have e0:c_m ns i E=c_B E ja RA:=by
     unfold c_m;rw [if_pos am,aa];simp only [];rw [if_neg (by omega),eg,ao];rfl
    rw [e0];exact ⟨c_B E ja RA,ay ja E RA ae (by omega) o1.1 o1.2,fun W p1 q1 n1 M m1 L h hb _ _=>no b _ (by omega) W p1 q1 n1 M m1 L h hb⟩
 obtain ⟨s2,aG⟩:∃ s,c_m ns i E=s:=⟨_,rfl⟩
 rw [aG] at aC ⊢;have HS:Hid (SwC w B V tb O vb N E.1 E.2/\B<=w.heap.size):=⟨hS,hB⟩
 have HC:Hid ((w.cell? ⟨V,0,none⟩=some (.pointer (some ⟨tb,0,none⟩)))/\w.cell? ⟨V,1,none⟩=some (.slice (some ⟨O,0,none⟩) N N)/\w.cell? ⟨O,i*2,none⟩=some (.slice p n c)/\w.cell? ⟨O,i*2+1,none⟩=some (.slice p2 n2 c2)):=⟨b0,b1,c0,M⟩
 haveI:Nonempty World:=⟨w⟩
 clear aG ao aq hg aY eg ak aa ah aD av hS hB hT aB ae aw hV hG f0 f1 c0 M eN hr hi;go_enter Tryz.func46,Tryz.ntmps46;go_wp2_with fail
 refine (aU.out w (Below.refl _ _)).mono ?_;rintro e w1 ⟨s_,t_,rfl,aR,a3,aP⟩;obtain ⟨ps,ac,cs,rfl⟩:=aR.form_;obtain ⟨pt,nt,ct,rfl⟩:=a3.form_;clear aR a3 aU b0 b1 b2 v0 v1 kb kv;go_wp2_with fail
 generalize aA:World.alloc _ _=W0;have aH:Below w1.heap.size w1 W0:=by rw [<- aA];exact a_b _ _
 have XN:W0.heap[w1.heap.size]?=some (.cells #[.int .i64 op,.int .i64 a,.int .i64 b,.int .i64 k,.slice ps ac cs,.slice pt nt ct] 109 (0,0)):=by rw [<- aA];exact heap_alloc_new _ _
 have ab:Hid (Below w.heap.size w W0):=a_c aP aH;obtain ⟨nb,a4⟩:∃ nb,w1.heap.size=nb:=⟨_,rfl⟩
 rw [a4] at XN ⊢;have HX:Hid (W0.heap[nb]?=some (.cells #[.int .i64 op,.int .i64 a,.int .i64 b,.int .i64 k,.slice ps ac cs,.slice pt nt ct] 109 (0,0))):=XN;clear aA aH aP a4;have b0:=a_d HC.out.1 ab.out;have b1:=a_d HC.out.2.1 ab.out;have c0:=a_d HC.out.2.2.1 ab.out;have M:=a_d HC.out.2.2.2 ab.out;obtain ⟨⟨k0,k1,k2,k3,k4,k5⟩,_⟩:=g_m XN;have kz:=a_i XN;have kb:=a_a b0;have kc:=a_a c0;clear XN;refine r_m [⟨12,41,TupR W0.heap.size RA RB⟩,⟨13,28,TupR W0.heap.size RA RB⟩,⟨14,42,OwnT W0.heap.size RA.1 RA.2⟩,⟨15,43,OwnT W0.heap.size RB.1 RB.2⟩,⟨17,7,NewC W0.heap.size⟩,⟨18,8,NewC W0.heap.size⟩] 19 61 (by kernel_rfl) rfl rfl [15,16] (by kernel_rfl) (by kernel_rfl) (fun i0 hi o0 ho c a w v h=>?_) (by rfl) [17] [18] l_b ?fw (by decide) (by decide) ?ph ?_
 ·simp only [List.mem_cons,List.not_mem_nil,or_false] at hi;rcases hi with rfl|rfl
  ·cases ho;exact h
  ·cases ho;exact h
 case fw=>
  intro e he hk v W h b hb;simp only [List.mem_cons,List.not_mem_nil,or_false] at he hk
  have q:NewC W0.heap.size v W:=by
   rcases he with rfl|rfl|rfl|rfl|rfl|rfl
   ·simp at hk
   ·simp at hk
   ·simp at hk
   ·simp at hk
   ·exact h
   ·exact h
  obtain ⟨g,L,e2,_⟩:=q;rw [L] at hb;obtain rfl:g=b:=Option.some.inj hb;exact a_i e2
 case ph=>
  intro e he v W W' h hb;simp only [List.mem_cons,List.not_mem_nil,or_false] at he;rcases he with rfl|rfl|rfl|rfl|rfl|rfl
  ·exact TupR.up h hb
  ·exact TupR.up h hb
  ·exact OwnT.up h hb
  ·exact OwnT.up h hb
  ·exact NewC.up h hb
  ·exact NewC.up h hb
 apply Exists.intro;refine ⟨?yt,?yl,?wk,?pk,?st,?sa,?rest⟩
 case wk=>
  intro x;simp only [List.take_succ_cons,List.take_zero]
  iterate 12
   refine a_l rfl rfl ?_;apply Exists.intro;refine ⟨fun F hF hf K hK=>?_,?_⟩
   ·have hFc:=hF.cell;have hFf:=hF.frozen
    go_big_quiet_op
    first|exact hK|(apply Exists.intro;refine ⟨fun _=>?_,?_⟩;(· fail);exact hK)
   (try simp only [Act.put,sA_,sB_,sC_])
  refine a_o rfl rfl ?_ ?_
  ·intro F hF hf d;have hFc:=hF.cell;have hFf:=hF.frozen;simp [a_j,a_f,go_sem];refine (aS.out (F d) _ _ _ _ _ _ (a_c ab.out (hF.below d))).mono ?_;rintro e' w8 ⟨v8,v9,rfl,h8,h9,a6⟩;exact ⟨_,rfl,⟨v8,v9,rfl,(h8.low (hF.below d).size).own,(h9.low (hF.below d).size).own⟩,a6⟩
  (try simp only [Act.put,sA_,sB_,sC_])
  refine a_o rfl rfl ?_ ?_
  ·intro F hF hf d;have hFc:=hF.cell;have hFf:=hF.frozen;have h9:=hf _ List.mem_cons_self (by rfl) d;simp [a_j,a_f,go_sem];exact ⟨h9,Below.refl _ _⟩
  (try simp only [Act.put,sA_,sB_,sC_])
  refine a_o rfl rfl ?_ ?_
  ·intro F hF hf d;have hFc:=hF.cell;have hFf:=hF.frozen;have h9:=hf _ (List.mem_cons_of_mem _ List.mem_cons_self) (by rfl) d;obtain ⟨u9,q9,e9,o9,o8⟩:=h9;simp only [] at e9;simp [a_j,a_f,go_sem,e9];exact ⟨o9,Below.refl _ _⟩
  (try simp only [Act.put,sA_,sB_,sC_])
  refine a_o rfl rfl ?_ ?_
  ·intro F hF hf d;have hFc:=hF.cell;have hFf:=hF.frozen;have h9:=hf _ (List.mem_cons_of_mem _ List.mem_cons_self) (by rfl) d;obtain ⟨u9,q9,e9,o9,o8⟩:=h9;simp only [] at e9;simp [a_j,a_f,go_sem,e9];exact ⟨o8,Below.refl _ _⟩
  (try simp only [Act.put,sA_,sB_,sC_])
  refine a_l rfl rfl ?_;apply Exists.intro;refine ⟨fun F hF hf K hK=>?_,?_⟩
  ·have hFc:=hF.cell;have hFf:=hF.frozen;have h9:=hf _ (List.mem_cons_of_mem _ List.mem_cons_self) (by rfl);obtain ⟨u9,q9,e9,_⟩:=h9 W0;simp only [] at e9
   go_big_quiet_op
   first|exact hK|(apply Exists.intro;refine ⟨fun _=>?_,?_⟩;(· fail);exact hK)
  iterate 2
   (try simp only [Act.put,sA_,sB_,sC_])
   refine a_o rfl rfl ?_ ?_
   ·intro F hF hf d;have hFc:=hF.cell;have hFf:=hF.frozen;simp [a_j,a_f,go_sem];exact ⟨⟨(F d).heap.size,rfl,by show ((F d).heap.push _)[(F d).heap.size]?=_;simp,(hF.below d).size⟩,a_b _ _⟩
  (try simp only [Act.put,sA_,sB_,sC_])
  refine b_a ?_;exact rfl
 case pk=>
  intro x;simp only [b_k,List.foldl_cons,List.foldl_nil,Act.put,sA_,sB_,sC_]
 case yt=>
  intro i0 hi o0 ho e he W x hx;simp only [List.mem_cons,List.not_mem_nil,or_false] at hi;rcases hi with rfl|rfl
  ·cases ho;have a5:(⟨15,43,OwnT W0.heap.size RB.1 RB.2⟩:Told)=e:=Option.some.inj he;subst a5;obtain ⟨u9,q9,e9,n9,o9⟩:=hx _ (List.mem_cons_of_mem _ List.mem_cons_self) (by rfl);simp only [] at e9;refine ⟨q9,o9,.inl ⟨by rfl,fun w=>?_⟩⟩;simp [execOp,Act.eval,e9,go_sem]
  ·cases he
 case yl=>
  intro i0 hi o0 ho hn x hx;simp only [List.mem_cons,List.not_mem_nil,or_false] at hi;rcases hi with rfl|rfl
  ·cases hn
  ·cases ho;obtain ⟨W9,u9,q9,e9,_⟩:=hx _ (List.mem_cons_of_mem _ List.mem_cons_self) (by rfl);simp only [] at e9;refine ⟨.int .i64 0,fun t ht=>?_,.inl ⟨by rfl,fun w=>?_⟩⟩
   ·cases ht;rfl
   ·simp [execOp,Act.eval,e9,go_sem]
 case st=>
  intro e he hk o ho x F hF hf d;simp only [List.mem_cons,List.not_mem_nil,or_false] at he;rcases he with rfl|rfl|rfl|rfl|rfl|rfl
  ·exact absurd hk (by simp)
  ·exact absurd hk (by simp)
  ·exact absurd hk (by simp)
  ·exact absurd hk (by simp)
  ·cases ho;refine a_L (φ:=fun v I=>v = .pointer (some ⟨(F d).heap.size,0,none⟩)/\I=(F d).alloc (.cells #[.slice none 0 0,.slice none 0 0] 64)) ?_ ?_
   ·rintro v I ⟨rfl,rfl⟩;exact ⟨⟨(F d).heap.size,rfl,by show ((F d).heap.push _)[(F d).heap.size]?=_;simp,(hF.below d).size⟩,fun b hb=>.inl (Nat.le_of_eq (Option.some.inj hb))⟩
   ·simp [a_j,a_f,go_sem]
    first|exact a_b _ _|exact ⟨⟨rfl,rfl⟩,a_b _ _⟩
  ·exact absurd hk (by simp)
 case sa=>
  intro e he hk o ho x F hF hf d;simp only [List.mem_cons,List.not_mem_nil,or_false] at he;rcases he with rfl|rfl|rfl|rfl|rfl|rfl
  ·exact absurd hk (by simp)
  ·exact absurd hk (by simp)
  ·exact absurd hk (by simp)
  ·exact absurd hk (by simp)
  ·exact absurd hk (by simp)
  ·cases ho;refine a_L (φ:=fun v I=>v = .pointer (some ⟨(F d).heap.size,0,none⟩)/\I=(F d).alloc (.cells #[.slice none 0 0,.slice none 0 0] 64)) ?_ ?_
   ·rintro v I ⟨rfl,rfl⟩;exact ⟨⟨(F d).heap.size,rfl,by show ((F d).heap.push _)[(F d).heap.size]?=_;simp,(hF.below d).size⟩,fun b hb=>Nat.le_of_eq (Option.some.inj hb)⟩
   ·simp [a_j,a_f,go_sem]
    first|exact a_b _ _|exact ⟨⟨rfl,rfl⟩,a_b _ _⟩
 intro z1 xs an hf a2;simp only [List.drop_succ_cons,List.drop_zero];have ap:=a2 _ _ (List.mem_cons_of_mem _ (List.mem_cons_of_mem _ (List.mem_cons_of_mem _ (List.mem_cons_of_mem _ List.mem_cons_self)))) (List.mem_cons_of_mem _ (List.mem_cons_of_mem _ (List.mem_cons_of_mem _ (List.mem_cons_of_mem _ (List.mem_cons_of_mem _ List.mem_cons_self))))) (by simp) (by simp);obtain ⟨pa,na,ca,pb,H,cb,ev,o1,o2⟩:=hf _ (List.mem_cons_of_mem _ (List.mem_cons_of_mem _ List.mem_cons_self));obtain ⟨pc,nc,cc,pd,nd,cd,ew,o3,o4⟩:=hf _ (List.mem_cons_of_mem _ (List.mem_cons_of_mem _ (List.mem_cons_of_mem _ List.mem_cons_self)));obtain ⟨g7,eb,ag,aJ⟩:=hf _ (List.mem_cons_of_mem _ (List.mem_cons_of_mem _ (List.mem_cons_of_mem _ (List.mem_cons_of_mem _ List.mem_cons_self))));obtain ⟨J,ar,ad,ax⟩:=hf _ (List.mem_cons_of_mem _ (List.mem_cons_of_mem _ (List.mem_cons_of_mem _ (List.mem_cons_of_mem _ (List.mem_cons_of_mem _ List.mem_cons_self)))));simp only [] at ev ew eb ar ap;rw [eb,ar] at ap;have az:g7≠J:=fun e=>ap g7 rfl (by rw [e];rfl);obtain ⟨bf,aZ⟩:∃ q,xs 12=q:=⟨_,rfl⟩
 obtain ⟨bh,aF⟩:∃ q,xs 13=q:=⟨_,rfl⟩
 simp only [ev,ew,eb,ar,aZ,aF];have aL:Below W0.heap.size W0 (set2 (set2 z1 g7 (.slice pa na ca) (.slice pb H cb)) J (.slice pc nc cc) (.slice pd nd cd)):=a_8 (a_8 an g7 aJ _ _) J ax _ _;have a9:z1.heap[nb]?=some (.cells #[.int .i64 op,.int .i64 a,.int .i64 b,.int .i64 k,.slice ps ac cs,.slice pt nt ct] 109 (0,0)):=(an.block _ (a_i HX.out)).trans HX.out;have bk:=a_i HX.out;have bm:nb≠g7:=by omega
 have bg:nb≠J:=by omega
 have f1:=o1.off_type ag (by decide);have f2:=o2.off_type ag (by decide);have f3:=o3.off_type ag (by decide);have f4:=o4.off_type ag (by decide);have f5:=o1.off_type ad (by decide);have f6:=o2.off_type ad (by decide);have f7:=o3.off_type ad (by decide);have f8:=o4.off_type ad (by decide);have t1:=Stay.set2 (g:=g7) z1 (.slice pa na ca) (.slice pb H cb);have t2:=Stay.set2 (g:=J) (set2 z1 g7 (.slice pa na ca) (.slice pb H cb)) (.slice pc nc cc) (.slice pd nd cd);have y7:Cel (set2 (set2 z1 g7 (.slice pa na ca) (.slice pb H cb)) J (.slice pc nc cc) (.slice pd nd cd)) g7 (.slice pa na ca) (.slice pb H cb):=((c_o ag).set _ _).stay t2 az;have y8:Cel (set2 (set2 z1 g7 (.slice pa na ca) (.slice pb H cb)) J (.slice pc nc cc) (.slice pd nd cd)) J (.slice pc nc cc) (.slice pd nd cd):=((c_o ad).stay t1 (Ne.symm az)).set _ _;have HU:Hid ((Cel (set2 (set2 z1 g7 (.slice pa na ca) (.slice pb H cb)) J (.slice pc nc cc) (.slice pd nd cd)) g7 (.slice pa na ca) (.slice pb H cb)/\Cel (set2 (set2 z1 g7 (.slice pa na ca) (.slice pb H cb)) J (.slice pc nc cc) (.slice pd nd cd)) J (.slice pc nc cc) (.slice pd nd cd))/\(OwnK .i64 3 (set2 (set2 z1 g7 (.slice pa na ca) (.slice pb H cb)) J (.slice pc nc cc) (.slice pd nd cd)) W0.heap.size (.slice pa na ca) RA.1/\OwnK .i64 23 (set2 (set2 z1 g7 (.slice pa na ca) (.slice pb H cb)) J (.slice pc nc cc) (.slice pd nd cd)) W0.heap.size (.slice pb H cb) RA.2/\OwnK .i64 3 (set2 (set2 z1 g7 (.slice pa na ca) (.slice pb H cb)) J (.slice pc nc cc) (.slice pd nd cd)) W0.heap.size (.slice pc nc cc) RB.1/\OwnK .i64 23 (set2 (set2 z1 g7 (.slice pa na ca) (.slice pb H cb)) J (.slice pc nc cc) (.slice pd nd cd)) W0.heap.size (.slice pd nd cd) RB.2)/\Below W0.heap.size W0 (set2 (set2 z1 g7 (.slice pa na ca) (.slice pb H cb)) J (.slice pc nc cc) (.slice pd nd cd))/\W0.heap.size<=J):=⟨⟨y7,y8⟩,⟨(o1.stay t1 f1).stay t2 f5,(o2.stay t1 f2).stay t2 f6,(o3.stay t1 f3).stay t2 f7,(o4.stay t1 f4).stay t2 f8⟩,aL,ax⟩
 obtain ⟨r0,r1,r2,r3⟩:=c_o ag;obtain ⟨r4,r5,r6,r7⟩:=c_o ad;have z7:=a_a r0;have z8:=a_a r4;have bi:J≠g7:=Ne.symm az;clear f1 f2 f3 f4 f5 f6 f7 f8 o1 o2 o3 o4 t1 t2 y7 y8 aL ag aJ ad ax hf a2 ap ev ew eb ar aZ aF an aS b0 b1 c0 M k0 k1 k2 k3 k4 k5 kb kc;obtain ⟨U,eU⟩:∃ U,(set2 (set2 z1 g7 (.slice pa na ca) (.slice pb H cb)) J (.slice pc nc cc) (.slice pd nd cd))=U:=⟨_,rfl⟩
 have HK:Hid (U.heap[nb]?=some (.cells #[.int .i64 op,.int .i64 a,.int .i64 b,.int .i64 k,.slice ps ac cs,.slice pt nt ct] 109 (0,0))):=by
  show _=_;rw [<- eU,HU.out.2.2.1.block _ (a_i HX.out)];exact HX.out
 obtain ⟨⟨k0,k1,k2,k3,k4,k5⟩,_⟩:=g_m HK.out;have kn:=a_i HK.out;rw [eU] at HU;obtain ⟨q0,q1,_,_⟩:=HU.out.1.1;have kq:=a_a q0;clear a9;go_wp2_with fail
 clear eU k0 k1 k2 k3 k4 k5 kn q0 q1 kq r0 r1 r2 r3 r4 r5 r6 r7 z7 z8;have ai:Hid (Below w.heap.size w U):=a_c ab.out HU.out.2.2.1;have a1:B<=U.heap.size:=Nat.le_trans HS.out.2 ai.out.size;refine (aT.out U _ _ _ _ _ _ (HS.out.1.up ai.out) a1 HU.out.2.1.1.nums HU.out.2.1.2.1.nums).mono ?_;rintro e w3 ⟨rfl,aX,a0,au⟩;obtain ⟨bl,aK,_⟩:=(HS.out.1.up ai.out).hg;have aM:=(HS.out.1.up ai.out).hv;have oU:=au.only aK aM;have aO:J < U.heap.size:=a_a HU.out.1.2.1
 have a7:O < W0.heap.size:=by
  obtain ⟨bj,bb,_⟩:=(HS.out.1.up ab.out).hg;exact a_i bb
 have bc:vb < W0.heap.size:=a_i (HS.out.1.up ab.out).hv;have ba:=HU.out.2.2.2;have e8:w3.heap[J]?=U.heap[J]?:=au.2 J aO (by omega) (by omega);have b8:Below (U.heap.size) U U:=Below.refl _ _;have aj:Hid ((SwC w3 B V tb O vb N s1.1 s1.2/\B<=w3.heap.size)/\(Nums .i64 w3 (.slice pc nc cc) RB.1/\Nums .i64 w3 (.slice pd nd cd) RB.2)/\Below B w w3):=⟨⟨aX,Nat.le_trans a1 au.1⟩,⟨(HU.out.2.1.2.2.1.only oU (by decide)).nums,(HU.out.2.1.2.2.2.only oU (by decide)).nums⟩,(ai.out.mono HS.out.2).trans a0⟩
 obtain ⟨⟨k0,k1,k2,k3,k4,k5⟩,_⟩:=g_m (oU.keep HK.out (by decide));have kn:=a_i (oU.keep HK.out (by decide))
 have af:∀ o v,U.cell? ⟨J,o,none⟩=some v->w3.cell? ⟨J,o,none⟩=some v:=fun o v h=>by
  unfold World.cell? at h ⊢;rw [show w3.heap[(⟨J,o,none⟩:Addr).block]?=U.heap[(⟨J,o,none⟩:Addr).block]? from e8];exact h
 have r4:=af 0 _ HU.out.1.2.1;have r5:=af 1 _ HU.out.1.2.2.1;have z8:=a_a r4;clear af e8 b8 bc a7 aO oU aM aK aX a0 au aT HU ai ba;go_wp2_with fail
 refine (aC.out w3 _ _ _ _ _ _ aj.out.1.1 aj.out.1.2 aj.out.2.1.1 aj.out.2.1.2).mono ?_;rintro e w4 ⟨rfl,aN,aV,_⟩;have HF:Hid (SwC w4 B V tb O vb N s2.1 s2.2/\Below B w w4):=⟨aN,aj.out.2.2.trans aV⟩
 clear aN aV aj k0 k1 k2 k3 k4 k5 kn r4 r5 z8 aC;go_wp2;exact bodyPost_ret (v:=.int .i64 0) (by simp [results,Tryz.results46,go_sem]) rfl ⟨rfl,HF.out⟩
/-- A row that was just made: all its cells are one value. -/
theorem o_0 {z:Array Value} {v:Value} (E:0 < z.size) (h:∀ i,i < z.size->z[i]?=some v) (n:Nat):madeCells z n=(List.replicate n v).toArray:=by
 apply Array.toList_inj.1;refine List.ext_getElem? fun j=>?_;by_cases D:j < n
 ·have e:=h (j % z.size) (Nat.mod_lt _ E);unfold madeCells;show _=(List.replicate n v)[j]?;rw [Array.getElem?_toList,Array.getElem?_map,Array.getElem?_range,if_pos D,List.getElem?_replicate,if_pos D];simp only [Option.map_some];rw [getElem!_def,e]
 ·rw [List.getElem?_eq_none (by rw [Array.length_toList,size_madeCells];omega),List.getElem?_eq_none (by simp;omega)]
theorem p_z {P:Program} {t e:TypeId} {z v:Value} {sz b:Nat} (U:P.underlying t=some (.slice e)) (D:(P.info? e).map (fun i=>(i.zero,i.size,i.bytes))=some (some z,sz,b)) (hb:b<=128) (R:0 < z.cells.size) (h:∀ i,i < z.cells.size->z.cells[i]?=some v) (n:Nat) (J:n<=100000) (W:World):
  (Instr.makeSlice t (.int .i64 (n:Int)) (.int .i64 (n:Int))).run P W = .ok (.slice (some ⟨W.heap.size,0,none⟩) n n) (W.alloc (.cells (List.replicate (n*sz) v).toArray e)):=by
 cases E:P.info? e with
 | none=>rw [E] at D;cases D
 | some i=>
  rw [E] at D;simp only [Option.map_some,Option.some.injEq,Prod.mk.injEq] at D;obtain ⟨M,L,O⟩:=D;have V:b*n<=128*100000:=Nat.mul_le_mul hb J
  have H:(i.bytes:Int)*(n:Int)<=281474976710656:=by
   have q:((i.bytes*n:Nat):Int)<=281474976710656:=by rw [O];omega
   rwa [Int.natCast_mul] at q
  have I:=run_make (P:=P) W t e i z U E M .i64 .i64 n n (by omega) (Int.le_refl _) H (by omega);simp only [Int.toNat_natCast] at I;rw [I,L,o_0 R h]
def MadeC (e:TypeId) (N K:Nat) (c:Value) (B:Nat) (v:Value) (W:World):Prop:=∃ b,v = .slice (some ⟨b,0,none⟩) N N/\W.heap[b]?=some (.cells (List.replicate K c).toArray e (0,0))/\B<=b
theorem MadeC.up {e:TypeId} {N K:Nat} {c:Value} {B:Nat} {v:Value} {W W':World} (h:MadeC e N K c B v W) (I:Below W.heap.size W W'):MadeC e N K c B v W':=by
 obtain ⟨b,E,D,H⟩:=h;exact ⟨b,E,(I.block _ (a_i D)).trans D,H⟩
/-- Noughts so far, nothing behind. -/
def nou (ns:List Nd) (i:Nat):Ten:=((ndN ns (i:Int)).D,List.replicate (ndN ns (i:Int)).X.length (0:Int))
def stK (ns:List Nd) (N k:Nat):List Ten:=(List.range N).map fun i=>if i < k then nou ns i else noT
theorem h_j (ns:List Nd) (N k:Nat):(stK ns N k).length=N:=by simp [stK]
theorem q_7 (ns:List Nd) (N k:Nat) (E:k < N):(stK ns N k).set k (nou ns k)=stK ns N (k+1):=by
 refine List.ext_getElem? fun j=>?_;rw [List.getElem?_set];unfold stK;by_cases D:j < N
 ·simp only [List.getElem?_map,List.getElem?_range D,Option.map_some,List.length_map,List.length_range];by_cases e:k=j
  ·subst e;rw [if_pos rfl,if_pos E,if_pos (by omega)]
  ·rw [if_neg e];by_cases h:j < k
   ·rw [if_pos h,if_pos (by omega)]
   ·rw [if_neg h,if_neg (by omega)]
 ·rw [if_neg (by omega),List.getElem?_eq_none (by simp;omega),List.getElem?_eq_none (by simp;omega)]
theorem o_1 (ns:List Nd) (root:Nat):stK ns (root+1) (root+1)=(List.range (root+1)).map (nou ns):=by
 unfold stK;refine List.map_congr_left fun i D=>?_;rw [if_pos (List.mem_range.1 D)]
theorem p_A (ns:List Nd) (N k i:Nat) (E:i < N) (D:i < k):(stK ns N k)[i]?=some (nou ns i):=by
 unfold stK;rw [List.getElem?_map,List.getElem?_range E,Option.map_some,if_pos D]
theorem SwC.fresh {W:World} {B I L E D N:Nat} (ns:List Nd) (V:W.heap[I]?=some (.cells #[.pointer (some ⟨L,0,none⟩),.slice (some ⟨E,0,none⟩) N N,.slice (some ⟨D,0,none⟩) N N] 107 (0,0))) (R:W.heap[E]?=some (.cells (List.replicate (N*2) (.slice none 0 0)).toArray 64 (0,0))) (U:W.heap[D]?=some (.cells (List.replicate N (.bool false)).toArray 4 (0,0))) (M:B<=I/\B<=E/\B<=D):SwC W B I L E D N (stK ns N 0) (List.replicate N false):=by
 refine ⟨V,⟨_,R,by simp [stK],fun i t H=>?_⟩,by rw [U];simp,M,h_j _ _ _,by simp⟩;have J:i < N:=by have:=(List.getElem?_eq_some_iff.1 H).1;rw [h_j] at this;exact this
 have O:t=noT:=by
  unfold stK at H;rw [List.getElem?_map,List.getElem?_range J] at H;simpa using H.symm
 subst O;exact ⟨_,_,by rw [List.getElem?_replicate,if_pos (by omega)],by rw [List.getElem?_replicate,if_pos (by omega)],OwnK.nil _ _ _ _,OwnK.nil _ _ _ _⟩
/-- The newest gradient's numbers lie in a block of their own. -/
def s_E (W:World) (gb k:Nat):Prop:=∀ i u v,i+1 < k->W.cell? ⟨gb,i*2+1,none⟩=some u->W.cell? ⟨gb,(k - 1)*2+1,none⟩=some v->∀ b,v.ownBlock=some b->u.ownBlock≠some b
/-- One for the root. -/
theorem SwC.one {W:World} {B sb tb M vb root:Nat} {ns:List Nd} {gv:List Bool} (h:SwC W B sb tb M vb (root+1) (stK ns (root+1) (root+1)) gv) (hl:s_E W M (root+1)) (h1:(ndN ns (root:Int)).X.length=1):
  ∃ q c,W.cell? ⟨M,root*2+1,none⟩=some (.slice (some ⟨q,0,none⟩) 1 c)/\(∃ v,W.cell? ⟨q,0,none⟩=some v)/\W.frozen? ⟨q,0,none⟩=false/\B<=q/\SwC (W.setCell ⟨q,0,none⟩ (.int .i64 4294967296)) B sb tb M vb (root+1) ((stK ns (root+1) (root+1)).set root ((ndN ns (root:Int)).D,[4294967296])) gv:=by
 obtain ⟨xs,O,V⟩:=h.hg;obtain ⟨s,u,a1,a2,a3,I⟩:=V.2 root _ (p_A ns (root+1) (root+1) root (by omega) (by omega));have e1:(nou ns root).2 = [0]:=by unfold nou;rw [h1];rfl
 rw [e1] at I;obtain ⟨q,c,rfl,hq⟩:=I.at (by simp)
 have hc:=a_Z (i:=root*2+1) O (by simpa using a2);obtain ⟨c1,c2⟩:=I.cell rfl 0 (by simp);obtain ⟨cs,fz,E⟩:=I.obj
 have U:fz=(0,0):=by
  rcases I.2 with ⟨H,_⟩|⟨g',cap,R,H,_,h3,_⟩
  ·cases H
  ·cases H;rw [E] at h3;cases h3;rfl
 subst U;have st:Stay q W (W.setCell ⟨q,0,none⟩ (.int .i64 4294967296)):=(Stay.refl q W).set 0 _;refine ⟨q,c,hc.1,⟨_,c1⟩,c2,hq,?_⟩;have nq:∀ {b:Nat} {cs:Array Value} {e:TypeId},W.heap[b]?=some (Obj.cells cs e (0,0))->e≠23->(W.setCell ⟨q,0,none⟩ (.int .i64 4294967296)).heap[b]?=W.heap[b]?:=fun hb he=>a_U _ _ _ _ _ (d_n hb E he);refine ⟨(nq h.hs (by decide)).trans h.hs,⟨xs,(nq O (by decide)).trans O,by simp [V.1],fun i t J=>?_⟩,(nq h.hv (by decide)).trans h.hv,h.bs,by rw [List.length_set];exact h.ll,h.lv⟩;rw [List.getElem?_set] at J;by_cases e:root=i
 ·subst e;rw [if_pos rfl,if_pos (by rw [h_j];omega)] at J;cases J;refine ⟨s,_,a1,a2,a3.stay st (a3.off_type E (by decide)),?_⟩;exact I.store rfl 0 4294967296
 ·rw [if_neg e] at J;obtain ⟨s',u',b1,b2,b3,b4⟩:=V.2 i t J;have aa:i < root+1:=by have:=(List.getElem?_eq_some_iff.1 J).1;rw [h_j] at this;exact this
  refine ⟨s',u',b1,b2,b3.stay st (b3.off_type E (by decide)),b4.stay st ?_⟩;intro ad n' c' eu L;subst eu;have:=hl i _ _ (by omega) (a_Z (i:=i*2+1) O (by simpa using b2)).1 (by simpa using hc.1) q rfl;rcases b4.2 with ⟨H,_⟩|⟨g',cap,R,H,_⟩
  ·cases H
  ·cases H;simp only [] at L;subst L;exact this rfl
theorem s_t (ns:List Nd) (root:Nat):(sw0 ns root).1=(stK ns (root+1) (root+1)).set root ((ndN ns (root:Int)).D,[4294967296])/\(sw0 ns root).2=(List.replicate (root+1) false).set root true:=by
 rw [o_1];exact ⟨rfl,rfl⟩
theorem k_2 (B0 V:Nat) (ns:List Nd) (hG:NodesG ns) (root:Nat) (hr:root < ns.length) (hl:ns.length<=512) (h1:(ndN ns (root:Int)).X.length=1) (w:World) (hT:TapC w B0 V ns):
  Calls Tryz.prog 45 #[.pointer (some ⟨V,0,none⟩),.int .i64 (root:Int)] w fun e w'=>∃ sb E I,e = .returned (.tuple #[.pointer (some ⟨sb,0,none⟩),.int .i64 0])/\SwC w' w.heap.size sb V E I (root+1) (sw0 ns root).1 (sw0 ns root).2/\Below w.heap.size w w':=by
 have eN:((root:Int)+1)=((root+1:Nat):Int):=by omega
 obtain ⟨N,hN⟩:∃ N,root+1=N:=⟨_,rfl⟩
 rw [hN] at eN;have a8:N<=512:=by omega
 have a0:(N:Int)<=512:=by omega
 have az:∀ W,(Instr.makeSlice 60 (.int .i64 (N:Int)) (.int .i64 (N:Int))).run Tryz.prog W = .ok (.slice (some ⟨W.heap.size,0,none⟩) N N) (W.alloc (.cells (List.replicate (N*2) (.slice none 0 0)).toArray 64)):=fun W=>p_z (z:=.agg #[.slice none 0 0,.slice none 0 0]) (b:=48) Tryz.underlying60 (by kernel_rfl) (by decide) (by decide) (fun i hi=>by
  have au:i < 2:=hi
  match i,au with
  | 0,_=>rfl
  | 1,_=>rfl) N (by omega) W
 have aL:∀ W,(Instr.makeSlice 105 (.int .i64 (N:Int)) (.int .i64 (N:Int))).run Tryz.prog W = .ok (.slice (some ⟨W.heap.size,0,none⟩) N N) (W.alloc (.cells (List.replicate N (.bool false)).toArray 4)):=fun W=>by
  have:=p_z (P:=Tryz.prog) (z:=.bool false) (v:=.bool false) (sz:=1) (b:=1) Tryz.underlying105 (by kernel_rfl) (by decide) (by decide) (fun i hi=>by
   have au:i < 1:=hi
   match i,au with
   | 0,_=>rfl) N (by omega) W
  rw [Nat.mul_one] at this;exact this
 have cV:Hid (∀ (i:Nat) W,i < N->Below w.heap.size w W->Calls Tryz.prog 25 #[.pointer (some ⟨V,0,none⟩),.int .i64 (i:Int)] W fun e w'=>∃ v,e = .returned (.tuple #[v,.bool true])/\TRes w' W.heap.size v (ndN ns (i:Int)).D (ndN ns (i:Int)).X/\Below W.heap.size W w'):=fun i W hi hW=>b_4 B0 V ns hG i _ (c_S (by omega)) W (hT.up hW)
 have cN:Hid (∀ (i:Nat) W v,i < N->Nums .i64 W v (ndN ns (i:Int)).D->Calls Tryz.prog 67 #[v,.int .i64 0] W fun e w'=>∃ v',e = .returned (.tuple #[v',.int .i64 0])/\TRes w' W.heap.size v' (nou ns i).1 (nou ns i).2/\Below W.heap.size W w'):=fun i W v hi hn=>by
  have gi:c_r (ndN ns (i:Int)).D (ndN ns (i:Int)).X:=hG _ (f_K (c_S (by omega)));have:=c_O v _ gi.2.1 0 W hn;rw [show l_3 (ndN ns (i:Int)).D=0 from if_pos gi.1.1,show d_V (ndN ns (i:Int)).D=(nou ns i).1 from if_pos gi.1.1,show l_4 (ndN ns (i:Int)).D 0=(nou ns i).2 from (if_pos gi.1.1).trans (by unfold nou;rw [gi.1.2])] at this;exact this
 have H1:Hid ((ndN ns (root:Int)).X.length=1/\root+1=N):=⟨h1,hN⟩
 have e0:=s_t ns root;rw [e0.1,e0.2,hN];have a7:root < N:=by omega
 have aZ:(root:Int) < (N:Int):=by omega
 haveI:Nonempty World:=⟨w⟩
 clear e0 h1 hT hG hr hl hN;go_enter Tryz.func45,Tryz.ntmps45;go_wp2_with fail
 refine rel [⟨3,15,MadeC 64 N (N*2) (.slice none 0 0) w.heap.size⟩,⟨6,18,MadeC 4 N N (.bool false) w.heap.size⟩] 7 68 (by kernel_rfl) rfl rfl (by kernel_rfl) (by rfl) ?_ ?_
 ·intro e he v W W' h hb;simp only [List.mem_cons,List.not_mem_nil,or_false] at he;rcases he with rfl|rfl
  ·exact MadeC.up h hb
  ·exact MadeC.up h hb
 apply Exists.intro;refine ⟨fun x=>?_,?_,?_⟩
 ·simp only [List.take_succ_cons,List.take_zero]
  iterate 3
   refine a_l rfl rfl ?_;apply Exists.intro;refine ⟨fun F hF hf K hK=>?_,?_⟩
   ·have hFc:=hF.cell;have hFf:=hF.frozen
    go_big_quiet_op
    first|exact hK|(apply Exists.intro;refine ⟨fun _=>?_,?_⟩;(· fail);exact hK)
   (try simp only [Act.put,sA_,sB_,sC_])
  refine a_o rfl rfl ?_ ?_
  ·intro F hF hf d;have hFc:=hF.cell;have hFf:=hF.frozen;simp [a_j,a_f,go_sem,az];exact ⟨⟨(F d).heap.size,rfl,heap_alloc_new _ _,(hF.below d).size⟩,a_b _ _⟩
  iterate 2
   (try simp only [Act.put,sA_,sB_,sC_])
   refine a_l rfl rfl ?_;apply Exists.intro;refine ⟨fun F hF hf K hK=>?_,?_⟩
   ·have hFc:=hF.cell;have hFf:=hF.frozen
    go_big_quiet_op
    first|exact hK|(apply Exists.intro;refine ⟨fun _=>?_,?_⟩;(· fail);exact hK)
  (try simp only [Act.put,sA_,sB_,sC_])
  refine a_o rfl rfl ?_ ?_
  ·intro F hF hf d;have hFc:=hF.cell;have hFf:=hF.frozen;simp [a_j,a_f,go_sem,aL];exact ⟨⟨(F d).heap.size,rfl,heap_alloc_new _ _,(hF.below d).size⟩,a_b _ _⟩
  (try simp only [Act.put,sA_,sB_,sC_])
  refine b_a ?_;exact rfl
 ·intro x;simp only [b_k,List.foldl_cons,List.foldl_nil,Act.put,sA_,sB_,sC_]
 intro z1 xs aG hf;simp only [List.drop_succ_cons,List.drop_zero];obtain ⟨E,ea,aC,aN⟩:=hf _ List.mem_cons_self;obtain ⟨I,eb,aI,ab⟩:=hf _ (List.mem_cons_of_mem _ List.mem_cons_self);simp only [] at ea eb;simp only [ea,eb];have ao:Hid ((z1.heap[E]?=some (.cells (List.replicate (N*2) (.slice none 0 0)).toArray 64 (0,0))/\z1.heap[I]?=some (.cells (List.replicate N (.bool false)).toArray 4 (0,0)))/\w.heap.size<=E/\w.heap.size<=I/\Below w.heap.size w z1):=⟨⟨aC,aI⟩,aN,ab,aG⟩
 clear hf ea eb aC aI aN ab aG az aL;go_wp2_with fail
 generalize am:World.alloc _ _=W0;obtain ⟨sb,ae⟩:∃ b,z1.heap.size=b:=⟨_,rfl⟩
 have ax:W0.heap[z1.heap.size]?=some (.cells #[.pointer (some ⟨V,0,none⟩),.slice (some ⟨E,0,none⟩) N N,.slice (some ⟨I,0,none⟩) N N] 107 (0,0)):=by rw [<- am];exact heap_alloc_new _ _
 have ag:Below z1.heap.size z1 W0:=by rw [<- am];exact a_b _ _
 have aY:Hid (SwC W0 w.heap.size sb V E I N (stK ns N 0) (List.replicate N false)):=by
  rw [ae] at ax;have q:=ao.out;exact SwC.fresh ns ax ((ag.block _ (a_i q.1.1)).trans q.1.1) ((ag.block _ (a_i q.1.2)).trans q.1.2) ⟨by rw [<- ae];exact q.2.2.2.size,q.2.1,q.2.2.1⟩
 have aV:Hid (Below w.heap.size w W0):=a_c ao.out.2.2.2 ag;rw [ae];clear am ax ag ao ae
 go_loopg [26] N (fun gg i wr=>∃ (k:Nat),k<=N/\gg=N - k/\i = .int .i64 (k:Int)/\Hid (SwC wr w.heap.size sb V E I N (stK ns N k) (List.replicate N false))/\Hid (Below w.heap.size w wr/\s_E wr E k))
 case atStart=>exact ⟨0,by omega,by omega,by first|rfl|simp,aY.out,aV.out,fun i u v hi=>absurd hi (by omega)⟩
 case round=>
  obtain ⟨k,hk,a6,rfl,HS,O⟩:=hrel;obtain ⟨H,aW⟩:∃ H:World,H=wr:=⟨_,rfl⟩
  subst aW;by_cases af:k < N
  ·have a5:(k:Int) < (N:Int):=by omega
   go_wp2_with fail
   refine (cV.out k H af O.out.1).mono ?_;rintro e w1 ⟨v1,rfl,⟨s1,t1,rfl,ar,aO⟩,aR⟩;obtain ⟨p1,n1,c1,rfl⟩:=ar.form_;obtain ⟨q1,m1,e1,rfl⟩:=aO.form_;have av:Hid (Nums .i64 w1 (.slice p1 n1 c1) (ndN ns (k:Int)).D/\Below H.heap.size H w1):=⟨ar.nums,aR⟩
   clear ar aO aR;go_wp2_with fail
   generalize aP:World.alloc _ _=W2;have B2:Below w1.heap.size w1 W2:=by rw [<- aP];exact a_b _ _
   have ad:Hid (Below H.heap.size H W2):=a_c av.out.2 B2;have aQ:Hid (Nums .i64 W2 (.slice p1 n1 c1) (ndN ns (k:Int)).D):=av.out.1.up B2;clear aP B2 av;refine (cN.out k W2 _ af aQ.out).mono ?_;rintro e w3 ⟨v3,rfl,⟨s3,t3,rfl,an,ai⟩,aK⟩;obtain ⟨p3,n3,c3,rfl⟩:=an.form_;obtain ⟨J,L,M,rfl⟩:=ai.form_;have aJ:∀ j,(Value.slice J L M).ownBlock=some j->H.heap.size<=j:=fun j hj=>Nat.le_trans ad.out.size (ai.block j hj);have aM:Hid (Below H.heap.size H w3):=a_c ad.out aK;have ah:Hid (OwnK .i64 3 w3 H.heap.size (.slice p3 n3 c3) (nou ns k).1/\OwnK .i64 23 w3 H.heap.size (.slice J L M) (nou ns k).2/\∀ j,(Value.slice J L M).ownBlock=some j->H.heap.size<=j):=⟨an.low ad.out.size,ai.low ad.out.size,aJ⟩
   clear an ai aK ad aQ aJ;go_wp2_with fail
   generalize aq:World.alloc _ _=W4;have B4:Below w3.heap.size w3 W4:=by rw [<- aq];exact a_b _ _
   have X4:Cel W4 w3.heap.size (.slice p3 n3 c3) (.slice J L M):=(a_F aq (by simp [go_sem])).out;have ay:Hid (Below H.heap.size H W4):=a_c aM.out B4;have ak:Hid (OwnK .i64 3 W4 H.heap.size (.slice p3 n3 c3) (nou ns k).1/\OwnK .i64 23 W4 H.heap.size (.slice J L M) (nou ns k).2/\∀ j,(Value.slice J L M).ownBlock=some j->H.heap.size<=j):=⟨ah.out.1.up B4,ah.out.2.1.up B4,ah.out.2.2⟩
   have R:=HS.out.up ay.out;obtain ⟨b0,b1,b2⟩:=R.tape;obtain ⟨aw,ac,aE⟩:=R.hg;have aF:=aE.1;have aA:=R.ll;obtain ⟨va,i0,i1⟩:∃ va,W4.cell? ⟨E,k*2,none⟩=some va/\W4.frozen? ⟨E,k*2,none⟩=false:=⟨_,a_Z ac (by rw [List.getElem?_toArray];exact List.getElem?_eq_getElem (by omega))⟩
   obtain ⟨vc,i2,i3⟩:∃ va,W4.cell? ⟨E,k*2+1,none⟩=some va/\W4.frozen? ⟨E,k*2+1,none⟩=false:=⟨_,a_Z ac (by rw [List.getElem?_toArray];exact List.getElem?_eq_getElem (by omega))⟩
   have kb:=a_a b1;have kg:=a_a i0;obtain ⟨y0,y1,_,_⟩:=X4;have ky:=a_a y0;have aB:=R.bs;have ap:w.heap.size<=H.heap.size:=O.out.1.size
   have HZ:Hid (SwC ((W4.setCell ⟨E,k*2,none⟩ (.slice p3 n3 c3)).setCell ⟨E,k*2+1,none⟩ (.slice J L M)) w.heap.size sb V E I N (stK ns N (k+1)) (List.replicate N false)/\Below w.heap.size w ((W4.setCell ⟨E,k*2,none⟩ (.slice p3 n3 c3)).setCell ⟨E,k*2+1,none⟩ (.slice J L M))/\s_E ((W4.setCell ⟨E,k*2,none⟩ (.slice p3 n3 c3)).setCell ⟨E,k*2+1,none⟩ (.slice J L M)) E (k+1)):=by
    have h:=R.set af (ak.out.1.low ap) (ak.out.2.1.low ap);have aD:w.heap.size<=E:=aB.2.1;refine ⟨?_,((a_c O.out.1 ay.out).setCell (p:=⟨E,k*2,none⟩) aD _).setCell (p:=⟨E,k*2+1,none⟩) aD _,fun i u v hi hu hv b hb aH=>?_⟩
    ·rw [<- q_7 ns N k af];exact h
    ·have x1:=a_n (o:=k*2) (x:=.slice p3 n3 c3) ac;have x2:=a_n (o:=k*2+1) (x:=.slice J L M) x1
     have ev:v = .slice J L M:=by
      have:=(a_Z (i:=k*2+1) (v:=.slice J L M) x2 (by rw [Array.getElem?_setIfInBounds,if_pos rfl,if_pos (by simp only [Array.size_setIfInBounds,List.size_toArray];omega)])).1;rw [show (k+1 - 1)*2+1=k*2+1 by omega] at hv;rw [this] at hv;exact (Option.some.inj hv).symm
     have h9:=ak.out.2.2 b (by rw [<- ev];exact hb);obtain ⟨s',u',a1,a2,a3,a4⟩:=(HS.out.hg.choose_spec.2).2 i _ (p_A ns N k i (by omega) (by omega));have aX:H.cell? ⟨E,i*2+1,none⟩=some u':=(a_Z (i:=i*2+1) HS.out.hg.choose_spec.1 (by simpa using a2)).1
     have aS:((W4.setCell ⟨E,k*2,none⟩ (.slice p3 n3 c3)).setCell ⟨E,k*2+1,none⟩ (.slice J L M)).cell? ⟨E,i*2+1,none⟩=W4.cell? ⟨E,i*2+1,none⟩:=by
      have e1:aw.length=N*2:=by rw [aF,aA]
      rw [(a_Z (i:=i*2+1) (v:=aw[i*2+1]'(by omega)) x2 (by
       have n1:k*2≠i*2+1:=by omega
       have n2:k*2+1≠i*2+1:=by omega
       rw [Array.getElem?_setIfInBounds,if_neg n2,Array.getElem?_setIfInBounds,if_neg n1,List.getElem?_toArray];exact List.getElem?_eq_getElem (by omega))).1,(a_Z (i:=i*2+1) (v:=aw[i*2+1]'(by omega)) ac (by rw [List.getElem?_toArray];exact List.getElem?_eq_getElem (by omega))).1]
     have eu:u'=u:=by
      rw [aS,a_d aX ay.out] at hu;exact Option.some.inj hu
     rw [<- eu] at aH;have:=(World.ownsRow.lt a4 b aH).2;omega
   clear R ac aE aF aA aB ap aq B4 aM ah;go_region;generalize hZ:World.drew _=Z
   have aT:Hid (SwC Z w.heap.size sb V E I N (stK ns N (k+1)) (List.replicate N false)):=by
    have d:∀ {U:World},U.drew=Z->Below U.heap.size U Z:=fun h=>by rw [<- h];exact c_T (Below.refl _ _)
    exact HZ.out.1.up (d hZ)
   have aU:Hid (Below w.heap.size w Z/\s_E Z E (k+1)):=by
    have d:∀ {U:World},U.drew=Z->Below U.heap.size U Z:=fun h=>by rw [<- h];exact c_T (Below.refl _ _)
    refine ⟨a_c HZ.out.2.1 (d hZ),fun i u v hi hu hv=>?_⟩;rw [<- hZ] at hu hv;exact HZ.out.2.2 i u v hi hu hv
   clear hZ HZ;go_wp2;go_roundg (N - (k+1))
   case measure=>omega
   case rel=>exact ⟨k+1,by omega,rfl,by first|rfl|simp,aT,aU⟩
  ·obtain rfl:k=N:=by omega
   have aj:=H1.out.1;obtain rfl:=H1.out.2;obtain ⟨q,c,d0,⟨a9,d1⟩,d2,d3,aa⟩:=HS.out.one O.out.2 aj;obtain ⟨b0,b1,b2⟩:=HS.out.tape;have kb:=a_a b1;have kd:=a_a d0;have kq:=a_a d1;have st:Stay q H (H.setCell ⟨q,0,none⟩ (.int .i64 4294967296)):=(Stay.refl q H).set 0 _;obtain ⟨n0,n1,n2⟩:=aa.tape;obtain ⟨v0,v1⟩:=aa.flag (i:=root) (by omega);have kn:=a_a n0;have kv:=a_a v0;have ab:=aa.bs.2.2;have HF:Hid (SwC ((H.setCell ⟨q,0,none⟩ (.int .i64 4294967296)).setCell ⟨I,root,none⟩ (.bool true)) w.heap.size sb V E I (root+1) ((stK ns (root+1) (root+1)).set root ((ndN ns (root:Int)).D,[4294967296])) ((List.replicate (root+1) false).set root true)/\Below w.heap.size w ((H.setCell ⟨q,0,none⟩ (.int .i64 4294967296)).setCell ⟨I,root,none⟩ (.bool true))):=⟨aa.mark root,(O.out.1.setCell (p:=⟨q,0,none⟩) d3 _).setCell (p:=⟨I,root,none⟩) ab _⟩
   clear aa st HS O aj d3 ab eN H1;go_wp2;exact bodyPost_ret (v:=.tuple #[.pointer (some ⟨sb,0,none⟩),.int .i64 0]) (by simp [results,Tryz.results45,go_sem]) rfl ⟨sb,E,I,rfl,HF.out⟩
theorem SwC.own {W:World} {B sb J E I N:Nat} {l:List Ten} {R:List Bool} (h:SwC W B sb J E I N l R) (hN:N<=1000):OwnTs W B (.slice (some ⟨E,0,none⟩) N N) l:=by
 obtain ⟨H,hx,D⟩:=h.hg;have e:=h.ll;refine ⟨H,?_,D.1,fun i t V=>?_⟩
 ·rw [e];refine ⟨by rw [D.1,e],.inr ⟨E,N,H.toArray,rfl,h.bs.2.1,hx,Nat.le_refl _,by unfold maxLen;omega,by simp [D.1,e],by rw [List.take_of_length_le (by simp [D.1,e])]⟩⟩
 ·obtain ⟨s,u,L,O,M,U⟩:=D.2 i t V;refine ⟨s,u,?_,M,U⟩;refine List.ext_getElem? fun j=>?_;rw [List.getElem?_take]
  match j with
  | 0=>rw [if_pos (by omega),List.getElem?_drop];exact L
  | 1=>rw [if_pos (by omega),List.getElem?_drop];exact O
  | j+2=>rw [if_neg (by omega)];rfl
theorem k_3 (B H:Nat) (ns:List Nd) (hG:NodesG ns) (hV:NodesV ns) (ad:NodesK ns) (hl:ns.length<=512) (root:Int) (w:World) (hT:TapC w B H ns) (ae:Hid (Tz w)):
  Calls Tryz.prog 24 #[.pointer (some ⟨H,0,none⟩),.int .i64 root] w fun e V=>∃ v,e = .returned (.tuple #[v,.int .i64 (swE ns root)])/\OwnTs V w.heap.size v (swL ns root)/\Below w.heap.size w V:=by
 by_cases hn:0<=root/\root < (ns.length:Int);rotate_left
 ·have eE:swE ns root=1:=if_neg hn;have eL:swL ns root = []:=if_neg (by rw [eE];omega);rw [eE,eL];have cV:Hid (Calls Tryz.prog 25 #[.pointer (some ⟨H,0,none⟩),.int .i64 root] w fun e V=>e = .returned (.tuple #[.agg #[.slice none 0 0,.slice none 0 0],.bool false])/\Below w.heap.size w V):=e_Y B H ns root (by omega) w hT;clear hT ae hn eE eL hG hV ad hl;go_enter Tryz.func24,Tryz.ntmps24;go_wp2_with fail
  refine cV.out.mono ?_;rintro e w1 ⟨rfl,J⟩;clear cV;go_wp2;exact bodyPost_ret (v:=.tuple #[.slice none 0 0,.int .i64 1]) (by simp [results,Tryz.results24,go_sem]) rfl ⟨_,rfl,OwnTs.nil _ _,a_c J (a_b _ _)⟩
 obtain ⟨r,rfl⟩:∃ r:Nat,root=(r:Int):=⟨root.toNat,by omega⟩
 have U:r < ns.length:=by omega
 have cV:Hid (Calls Tryz.prog 25 #[.pointer (some ⟨H,0,none⟩),.int .i64 (r:Int)] w fun e V=>∃ v,e = .returned (.tuple #[v,.bool true])/\TRes V w.heap.size v (ndN ns (r:Int)).D (ndN ns (r:Int)).X/\Below w.heap.size w V):=b_4 B H ns hG r _ (c_S U) w hT;obtain ⟨L,eL⟩:∃ L,(ndN ns (r:Int)).X.length=L:=⟨_,rfl⟩
 by_cases hL:L=1;rotate_left
 ·have eE:swE ns (r:Int)=4:=(if_pos hn).trans (if_neg (by rw [eL];exact hL));have ab:swL ns (r:Int) = []:=if_neg (by rw [eE];omega);rw [eE,ab];have av:((L:Int)==1)=false:=by simp;omega
  have HL:Hid ((ndN ns (r:Int)).X.length=L):=eL;clear hT ae hn eE ab hG hV ad hl U eL hL;go_enter Tryz.func24,Tryz.ntmps24;go_wp2_with fail
  refine cV.out.mono ?_;rintro e w1 ⟨v1,rfl,⟨s1,t1,rfl,aa,ac⟩,J⟩;obtain ⟨p1,n1,c1,rfl⟩:=aa.form_;obtain ⟨q1,e1,rfl,_⟩:=ac.nums.view;rw [HL.out];clear cV aa ac;go_wp2;exact bodyPost_ret (v:=.tuple #[.slice none 0 0,.int .i64 4]) (by simp [results,Tryz.results24,go_sem]) rfl ⟨_,rfl,OwnTs.nil _ _,a_c J (a_b _ _)⟩
 subst hL;have eE:swE ns (r:Int)=0:=(if_pos hn).trans (if_pos eL);have ab:swL ns (r:Int)=(swK ns r (r+1)).1:=if_pos eE;rw [eE,ab];have HL:Hid ((ndN ns (r:Int)).X.length=1/\r < 512):=⟨eL,by omega⟩
 have cS:Hid (∀ W,Below w.heap.size w W->Calls Tryz.prog 45 #[.pointer (some ⟨H,0,none⟩),.int .i64 (r:Int)] W fun e V=>∃ R M vb,e = .returned (.tuple #[.pointer (some ⟨R,0,none⟩),.int .i64 0])/\SwC V W.heap.size R H M vb (r+1) (sw0 ns r).1 (sw0 ns r).2/\Below W.heap.size W V):=fun W hW=>k_2 B H ns hG r U hl eL W (hT.up hW)
 have cP:Hid (∀ (k i R M vb I:Nat) W,k<=r->i=r - k->I<=W.heap.size->Below w.heap.size w W->SwC W I R H M vb (r+1) (swK ns r k).1 (swK ns r k).2->Calls Tryz.prog 46 #[.pointer (some ⟨R,0,none⟩),.int .i64 (i:Int)] W fun e V=>e = .returned (.int .i64 0)/\SwC V I R H M vb (r+1) (swK ns r (k+1)).1 (swK ns r (k+1)).2/\Below I W V):=fun k i R M vb I W hk hi hB hW hS=>by
  subst hi;exact n_k I B H ns hG hV ad r (r - k) U (by omega) (swK ns r k) (q_C hG hV U eL k) R M vb W (hT.up hW) (Hid.up_tz ae hW) hS hB
 have ar:(r:Int) < 512:=by omega
 haveI:Nonempty World:=⟨w⟩
 clear hT ae hn eE ab hG hV ad hl U eL;go_enter Tryz.func24,Tryz.ntmps24;go_wp2_with fail
 refine cV.out.mono ?_;rintro e w1 ⟨v1,rfl,⟨s1,t1,rfl,aa,ac⟩,J⟩;obtain ⟨p1,n1,c1,rfl⟩:=aa.form_;obtain ⟨q1,e1,rfl,_⟩:=ac.nums.view;rw [HL.out.1];have aj:Hid (Below w.heap.size w w1):=J;clear cV aa ac J;go_wp2_with fail
 generalize am:World.alloc _ _=W2
 have af:Hid (Below w.heap.size w W2):=by
  show Below _ _ _;rw [<- am];exact a_c aj.out (a_b _ _)
 clear am aj;refine (cS.out W2 af.out).mono ?_;rintro e w3 ⟨R,M,vb,rfl,an,ag⟩;have O:Hid (SwC w3 W2.heap.size R H M vb (r+1) (swK ns r 0).1 (swK ns r 0).2/\Below w.heap.size w w3/\W2.heap.size<=w3.heap.size/\w.heap.size<=W2.heap.size):=⟨an,a_c af.out ag,ag.size,af.out.size⟩
 obtain ⟨I,ai⟩:∃ I,W2.heap.size=I:=⟨_,rfl⟩
 rw [ai] at O;clear an ag af ai cS;go_wp2_with fail
 go_loopg [10] (r+1) (fun gg i wr=>∃ (k:Nat),k<=r+1/\gg=r+1 - k/\i = .int .i64 ((r:Int) - (k:Int))/\Hid (SwC wr I R H M vb (r+1) (swK ns r k).1 (swK ns r k).2)/\Hid (Below w.heap.size w wr/\I<=wr.heap.size))
 case atStart=>exact ⟨0,by omega,by omega,by first|rfl|simp,O.out.1,O.out.2.1,O.out.2.2.1⟩
 case round=>
  obtain ⟨k,hk,aq,rfl,HS,E⟩:=hrel;obtain ⟨R1,ao⟩:∃ R1:World,R1=wr:=⟨_,rfl⟩
  subst ao;by_cases au:k < r+1
  ·obtain ⟨i,ei⟩:∃ i:Nat,(r:Int) - (k:Int)=(i:Int):=⟨r - k,by omega⟩
   rw [ei];have aw:(i:Int) < 512:=by omega
   have ap:Hid (i=r - k):=by show _=_;omega
   have HE:Hid ((i:Int) - 1=(r:Int) - ((k+1:Nat):Int)):=by show _=_;omega
   clear ei;go_wp2_with fail
   refine (cP.out k i R M vb I R1 (by omega) ap.out E.out.2 E.out.1 HS.out).mono ?_;rintro e w4 ⟨rfl,ak,ah⟩;have H4:Hid (SwC w4 I R H M vb (r+1) (swK ns r (k+1)).1 (swK ns r (k+1)).2):=ak;have H5:Hid (Below w.heap.size w w4/\I<=w4.heap.size):=⟨E.out.1.trans (ah.mono O.out.2.2.2),Nat.le_trans E.out.2 ah.size⟩
   clear ak ah HS E;go_wp2;go_roundg (r+1 - (k+1))
   case measure=>omega
   case rel=>exact ⟨k+1,by omega,rfl,by rw [<- HE.out],H4,H5⟩
  ·obtain rfl:k=r+1:=by omega
   have ei:(r:Int) - ((r+1:Nat):Int) = -1:=by omega
   rw [ei];obtain ⟨b0,b1,b2⟩:=HS.out.tape;have kb:=a_a b0;have HF:Hid (OwnTs R1 w.heap.size (.slice (some ⟨M,0,none⟩) (r+1) (r+1)) (swK ns r (r+1)).1/\Below w.heap.size w R1):=⟨(HS.out.own (by have:=HL.out.2;omega)).low O.out.2.2.2,E.out.1⟩
   clear HS E ei;go_wp2;exact bodyPost_ret (v:=.tuple #[.slice (some ⟨M,0,none⟩) (r+1) (r+1),.int .i64 0]) (by simp [results,Tryz.results24,go_sem]) rfl ⟨_,rfl,HF.out⟩
theorem k_4 (B L:Nat) (ns:List Nd) (hG:NodesG ns) (hl:ns.length<=512) (k o cl:Int) (hk:1<=k/\k<=3) (px p:Option Addr) (nx cx n c:Nat) (y:List Int) (hy:RI y) (w:World) (hT:TapC w B L ns) (ac:Hid (∀ W,Below B w W->Tz W)) (h:KeptL B w (.slice p n c) y):
  Calls Tryz.prog 23 #[.pointer (some ⟨L,0,none⟩),.int .i64 o,.int .i64 k,.agg #[.slice px nx cx,.slice p n c,.int .i64 cl]] w fun e J=>e = .returned (.tuple #[.int .i64 (gkR k o cl ns y),.int .i64 (gkE k o cl ns y)])/\TapC J B L (gkN k o cl ns y)/\Below B w J/\Only SC w J/\Spar2 L w J:=by
 haveI:Nonempty World:=⟨w⟩
 have HZ:Hid (B<=w.heap.size):=by
  obtain ⟨hb,_,_,hv,_⟩:=hT;exact Nat.le_trans hb (Nat.le_of_lt (a_i hv))
 have c1:Hid (k=1->∀ W,Below w.heap.size w W->Calls Tryz.prog 42 #[.pointer (some ⟨L,0,none⟩),.int .i64 o,.slice p n c] W fun e J=>e = .returned (.tuple #[.int .i64 (gkR k o cl ns y),.int .i64 (gkE k o cl ns y)])/\TapC J B L (gkN k o cl ns y)/\Below B W J/\Only SC W J/\Spar2 L W J):=fun e W V=>by
  have:=j_a B L ns hG hl o p n c y hy W (hT.up V) (show Hid _ from fun W' ab=>ac.out W' ((V.mono HZ.out).trans ab)) (h.up (V.mono HZ.out) (Only.of V));subst e;exact this
 have c2:Hid (k=2->∀ W,Below w.heap.size w W->Calls Tryz.prog 43 #[.pointer (some ⟨L,0,none⟩),.int .i64 o,.slice p n c] W fun e J=>e = .returned (.tuple #[.int .i64 (gkR k o cl ns y),.int .i64 (gkE k o cl ns y)])/\TapC J B L (gkN k o cl ns y)/\Below B W J/\Only SC W J/\Spar2 L W J):=fun e W V=>by
  have:=n_j B L ns hG hl o p n c y hy W (hT.up V) (show Hid _ from fun W' ab=>ac.out W' ((V.mono HZ.out).trans ab)) (h.up (V.mono HZ.out) (Only.of V));subst e;exact this
 have c3:Hid (k=3->∀ W,Below w.heap.size w W->Calls Tryz.prog 44 #[.pointer (some ⟨L,0,none⟩),.int .i64 o,.int .i64 cl] W fun e J=>e = .returned (.tuple #[.int .i64 (gkR k o cl ns y),.int .i64 (gkE k o cl ns y)])/\TapC J B L (gkN k o cl ns y)/\Below B W J/\Only SC W J/\Spar2 L W J):=fun e W V=>by
  have:=k_1 B L ns hG hl o cl W (hT.up V) (show Hid _ from fun W' ab=>ac.out W' ((V.mono HZ.out).trans ab));subst e;exact this
 obtain ⟨R,eR⟩:∃ R,gkR k o cl ns y=R:=⟨_,rfl⟩
 obtain ⟨E,eE⟩:∃ R,gkE k o cl ns y=R:=⟨_,rfl⟩
 obtain ⟨NS,eN⟩:∃ R,gkN k o cl ns y=R:=⟨_,rfl⟩
 rw [eR,eE,eN] at c1 c2 c3 ⊢;clear eR eE eN hT ac h hy hG hl;go_enter Tryz.func23,Tryz.ntmps23;have aa:Hid (∀ W J,Below w.heap.size w W->(TapC J B L NS/\Below B W J/\Only SC W J/\Spar2 L W J)->TapC J B L NS/\Below B w J/\Only SC w J/\Spar2 L w J):=fun W J V h=>⟨h.1,(V.mono HZ.out).trans h.2.1,(Only.of V).trans h.2.2.1,Spar2.trans (Spar2.of V) h.2.2.2 V.size⟩
 rcases (by omega:k=1∨k=2∨k=3) with e1|e2|e3
 ·subst e1;go_wp2_with fail
  generalize M:World.alloc _ _=U;have O:Hid (Below w.heap.size w U):=by rw [<- M];exact a_b w _
  obtain ⟨g0,g1,g2⟩:U.cell? ⟨w.heap.size,0,none⟩=some (.slice px nx cx)/\U.cell? ⟨w.heap.size,1,none⟩=some (.slice p n c)/\U.cell? ⟨w.heap.size,2,none⟩=some (.int .i64 cl):=by rw [<- M];simp [go_sem]
  have kg:=a_g g0;clear M;go_wp2_with fail
  refine (c1.out (by first|rfl|trivial) U O.out).mono ?_;rintro e w5 ⟨rfl,h5⟩;have HF:Hid (TapC w5 B L NS/\Below B w w5/\Only SC w w5/\Spar2 L w w5):=aa.out U w5 O.out h5;clear h5 g0 g1 g2 kg c1 c2 c3 O aa;go_wp2;go_ret2;exact ⟨rfl,HF.out⟩
 ·subst e2;go_wp2_with fail
  generalize M:World.alloc _ _=U;have O:Hid (Below w.heap.size w U):=by rw [<- M];exact a_b w _
  obtain ⟨g0,g1,g2⟩:U.cell? ⟨w.heap.size,0,none⟩=some (.slice px nx cx)/\U.cell? ⟨w.heap.size,1,none⟩=some (.slice p n c)/\U.cell? ⟨w.heap.size,2,none⟩=some (.int .i64 cl):=by rw [<- M];simp [go_sem]
  have kg:=a_g g0;clear M;go_wp2_with fail
  refine (c2.out (by first|rfl|trivial) U O.out).mono ?_;rintro e w5 ⟨rfl,h5⟩;have HF:Hid (TapC w5 B L NS/\Below B w w5/\Only SC w w5/\Spar2 L w w5):=aa.out U w5 O.out h5;clear h5 g0 g1 g2 kg c1 c2 c3 O aa;go_wp2;go_ret2;exact ⟨rfl,HF.out⟩
 ·subst e3;go_wp2_with fail
  generalize M:World.alloc _ _=U;have O:Hid (Below w.heap.size w U):=by rw [<- M];exact a_b w _
  obtain ⟨g0,g1,g2⟩:U.cell? ⟨w.heap.size,0,none⟩=some (.slice px nx cx)/\U.cell? ⟨w.heap.size,1,none⟩=some (.slice p n c)/\U.cell? ⟨w.heap.size,2,none⟩=some (.int .i64 cl):=by rw [<- M];simp [go_sem]
  have kg:=a_g g0;clear M;go_wp2_with fail
  refine (c3.out (by first|rfl|trivial) U O.out).mono ?_;rintro e w5 ⟨rfl,h5⟩;have HF:Hid (TapC w5 B L NS/\Below B w w5/\Only SC w w5/\Spar2 L w w5):=aa.out U w5 O.out h5;clear h5 g0 g1 g2 kg c1 c2 c3 O aa;go_wp2;go_ret2;exact ⟨rfl,HF.out⟩
theorem k_k (G:List Ten) (a b:List Int):d_I G (a++b)=d_I G a++d_I G b:=by
 unfold d_I;rw [List.flatMap_append]
theorem n_l {G:List Ten} {ps:List Int} {j:Nat} (D:j < ps.length):d_I G (ps.take (j+1))=d_I G (ps.take j)++(G.getD (ps.getD j 0).toNat noT).2:=by
 rw [List.take_add_one,List.getElem?_eq_getElem D,k_k]
 congr 1
 rw [List.getD_eq_getElem?_getD (l:=ps),List.getElem?_eq_getElem D];simp [d_I]
theorem q_8 {G:List Ten} {ps:List Int} (j:Nat):(d_I G (ps.take j)).length<=(d_I G ps).length:=by
 have h:=List.take_append_drop j ps;have:=k_k G (ps.take j) (ps.drop j);rw [h] at this;rw [this,List.length_append];omega
/-- A row of one's own, as a told thing. -/
def OwnF (B:Nat) (l:List Int) (v:Value) (W:World):Prop:=OwnK .i64 23 W B v l
theorem OwnF.up {B:Nat} {l:List Int} {v:Value} {W W':World} (h:OwnF B l v W) (D:Below W.heap.size W W'):OwnF B l v W':=OwnK.up h D
theorem k_5 (k:Int) (w:World):Calls Tryz.prog 20 #[.int .i64 k] w fun e I=>e = .returned (.bool (decide (1<=k/\k<=3)))/\I=w:=by
 by_cases E:1<=k
 ·by_cases D:k<=3
  ·rw [decide_eq_true (show 1<=k/\k<=3 from ⟨E,D⟩)];go_enter Tryz.func20,Tryz.ntmps20;go_wp2;go_ret;exact ⟨rfl,rfl⟩
  ·rw [decide_eq_false (show ¬ (1<=k/\k<=3) from fun h=>D h.2)];have H:3 < k:=by omega
   go_enter Tryz.func20,Tryz.ntmps20;go_wp2;go_ret;exact ⟨rfl,rfl⟩
 ·rw [decide_eq_false (show ¬ (1<=k/\k<=3) from fun h=>E h.1)];have H:k < 1:=by omega
  go_enter Tryz.func20,Tryz.ntmps20;go_wp2;go_ret;exact ⟨rfl,rfl⟩
theorem n_m (B N E:Nat) (L:List Ten) (D:List Int) (p4 p5:Option Addr) (c4 c5:Nat) (hN:L.length=N) (aj:N<=513) (hm:D.length=E) (ag:E<=512) (hb:∀ i,i∈D->0<=i/\i < (N:Int)) (hg:(d_I L D).length<=1048576) (w:World) (h1:OwnTs w B (.slice p4 N c4) L) (h2:Nums .i64 w (.slice p5 E c5) D):
  Calls Tryz.prog 26 #[.slice p4 N c4,.slice p5 E c5] w fun e w'=>∃ v,e = .returned v/\OwnK .i64 23 w' w.heap.size v (d_I L D)/\Below w.heap.size w w':=by
 haveI:Nonempty World:=⟨w⟩
 have O:Hid (OwnTs w B (.slice p4 N c4) L/\Nums .i64 w (.slice p5 E c5) D/\L.length=N/\(d_I L D).length<=1048576/\D.length=E/\∀ i,i∈D->0<=i/\i < (N:Int)):=⟨h1,h2,hN,hg,hm,hb⟩
 clear h1 h2 hN hg hm hb;have H0:Hid (OwnK .i64 23 w w.heap.size (.slice none 0 0) (d_I L (D.take 0))):=OwnK.nil _ _ _ _;go_enter Tryz.func26,Tryz.ntmps26;go_wp2_with fail
 go_loopg [5,10] E (fun gg rv i wr=>∃ (j:Nat),j<=E/\gg=E - j/\i = .int .i64 (j:Int)/\Hid (OwnK .i64 23 wr w.heap.size rv (d_I L (D.take j)))/\Hid (Below w.heap.size w wr))
 case atStart=>exact ⟨0,by omega,by omega,by first|rfl|simp,H0,Below.refl _ _⟩
 case round=>
  obtain ⟨j,hj,hg,rfl,HR,I⟩:=hrel;by_cases R:j < E
  ·have ah:(j:Int) < (E:Int):=by omega
   have ai:(j:Int) < 512:=by omega
   obtain ⟨_,_,_,e9,aa⟩:=(O.out.2.1.up I.out).lst;cases e9;obtain ⟨q,o,rfl,hc⟩:=aa.out.2 j R;obtain ⟨x,ex⟩:∃ x,D.getD j 0=x:=⟨_,rfl⟩
   rw [ex] at hc;have H:=O.out.2.2.2.2.1
   have U:x∈D:=by
    rw [<- ex,List.getD_eq_getElem?_getD,List.getElem?_eq_getElem (by rw [H];exact R)];exact List.getElem_mem _
   obtain ⟨ab,af⟩:=O.out.2.2.2.2.2 x U;obtain ⟨J,ad⟩:=Int.eq_ofNat_of_zero_le ab;subst ad;have ac:J < L.length:=by rw [O.out.2.2.1];omega
   have hi:L[J]?=some (L.getD J noT):=by rw [List.getD_eq_getElem?_getD,List.getElem?_eq_getElem ac];rfl
   obtain ⟨q4,s4,u4,ep,y0,y1,_,hu⟩:=(O.out.1.up I.out).at J _ hi;subst ep;obtain ⟨pu,nu,cu,eu⟩:=hu.form_;subst eu
   have eg:d_I L (D.take (j+1))=d_I L (D.take j)++(L.getD J noT).2:=by
    rw [n_l (by rw [H];exact R),ex,Int.toNat_natCast]
   have M:(d_I L (D.take j)).length+(L.getD J noT).2.length<=1073741824:=by
    have:=q_8 (G:=L) (ps:=D) (j+1);rw [eg,List.length_append] at this;have:=O.out.2.2.2.1;omega
   have HX:Hid (d_I L (D.take (j+1))=d_I L (D.take j)++(L.getD J noT).2/\Nums .i64 wr (.slice pu nu cu) (L.getD J noT).2/\(d_I L (D.take j)).length+(L.getD J noT).2.length<=1073741824):=⟨eg,hu.nums,M⟩
   have k0:=a_g hc;have k1:=a_g y0;clear eg M hu aa hi ex U H;go_wp2_with (at_builtin;refine a_E k_w (by decide) rfl (.tmp 14) (.tmp 19) rfl w.heap.size _ _ rfl HR.out _ _ rfl HX.out.2.1 HX.out.2.2 I.out.size w I.out ?_;intro v6 w6 H6 B6)
   have V:Hid (OwnK .i64 23 w6 w.heap.size v6 (d_I L (D.take (j+1)))/\Below w.heap.size w w6):=⟨by rw [HX.out.1];exact H6.out,B6⟩
   clear H6 B6 HX;go_wp2;go_roundg (E - (j+1))
   case measure=>omega
   case rel=>exact ⟨j+1,by omega,rfl,by first|rfl|simp,V.out.1,V.out.2⟩
  ·obtain rfl:j=E:=by omega
   have ae:Hid (OwnK .i64 23 wr w.heap.size u5 (d_I L D)):=by
    have:=HR.out;rw [<- O.out.2.2.2.2.1,List.take_length] at this;exact this
   clear HR;go_wp2;exact bodyPost_ret (v:=u5) (by simp [results,Tryz.results26,go_sem]) rfl ⟨_,rfl,ae.out,I.out⟩
theorem s_u (d:List Int) (ls:List Ly) (k:Int) (P X y:List Int) (cl:Int) (aH:nE d ls=0->∀ st,st∈(plF d ls (nS d ls) P X ls.length).1->st.op≠1->RkC st.op) (av:nE d ls=0->∀ st,st∈(plF d ls (nS d ls) P X ls.length).1->st.op≠1->GvC st.op) (p p2 pp px py:Option Addr) (n c n2 c2 np cp nx cx ny cy:Nat) (aI:n2<=1073741823) (aZ:np<=1048576) (w:World) (hT:Hid (Tz w)) (hK:Hid (Kz w)) (az:Nums .i64 w (.slice p n c) d) (aB:LyR 0 w p2 n2 ls) (hp:RowI w pp np cp P) (hx:RowI w px nx cx X) (hy:RowI w py ny cy y):
  Calls Tryz.prog 9 #[.agg #[.slice p n c,.slice p2 n2 c2],.int .i64 k,.slice pp np cp,.agg #[.slice px nx cx,.slice py ny cy,.int .i64 cl]] w fun e w'=>∃ v,e = .returned (.tuple #[v,.int .i64 (gof d ls k P X y cl).2.2,.int .i64 (gof d ls k P X y cl).1])/\OwnK .i64 23 w' w.heap.size v (gof d ls k P X y cl).2.1/\Below w.heap.size w w':=by
 haveI:Nonempty World:=⟨w⟩
 have HN:Hid (Nums .i64 w (.slice p n c) d/\LyR 0 w p2 n2 ls/\RowI w pp np cp P/\RowI w px nx cx X/\RowI w py ny cy y):=⟨az,aB,hp,hx,hy⟩
 have aX:P.length=np:=by
  obtain ⟨_,_,_,e,h⟩:=hp.1.lst;cases e;exact h.out.1
 have hO:RnO (rnF d ls [] P X) P:=s_f hp.2.1 hx.2.1 av;have HO:Hid (RnO (rnF d ls [] P X) P):=hO;have aA:Hid (nE d ls=0->∀ st,st∈(plF d ls (nS d ls) P X ls.length).1->st.op≠1->RkC st.op):=aH;obtain ⟨T,eT⟩:∃ T,gof d ls k P X y cl=T:=⟨_,rfl⟩
 have HT:Hid (gof d ls k P X y cl=T):=eT;rw [eT];clear eT az aB hp hx hy hO aH av;go_enter Tryz.func9,Tryz.ntmps9;go_wp2_with fail
 generalize ag:World.alloc _ _=O;have M:Hid (Below w.heap.size w O):=by rw [<- ag];exact g_a (a_b w _) _
 obtain ⟨g0,g1,x0,x1,x2⟩:O.cell? ⟨w.heap.size,0,none⟩=some (.slice p n c)/\O.cell? ⟨w.heap.size,1,none⟩=some (.slice p2 n2 c2)/\O.cell? ⟨w.heap.size+1,0,none⟩=some (.slice px nx cx)/\O.cell? ⟨w.heap.size+1,1,none⟩=some (.slice py ny cy)/\O.cell? ⟨w.heap.size+1,2,none⟩=some (.int .i64 cl):=by rw [<- ag];simp [go_sem]
 have HG:Hid (O.cell? ⟨w.heap.size+1,0,none⟩=some (.slice px nx cx)/\O.cell? ⟨w.heap.size+1,1,none⟩=some (.slice py ny cy)/\O.cell? ⟨w.heap.size+1,2,none⟩=some (.int .i64 cl)):=⟨x0,x1,x2⟩
 clear ag;refine (k_5 k O).mono ?_;rintro e w1 ⟨rfl,aK⟩;rw [aK];clear aK;by_cases hk:1<=k/\k<=3
 case neg=>
  have et:T=(1,[],0):=by rw [<- HT.out];exact if_neg hk
  subst et;rw [decide_eq_false hk];go_wp2;exact bodyPost_ret (v:=.tuple #[.slice none 0 0,.int .i64 0,.int .i64 1]) (by simp [results,Tryz.results9,go_sem]) rfl ⟨_,rfl,OwnK.nil _ _ _ _,M.out⟩
 rw [decide_eq_true hk];obtain ⟨aJ,aL⟩:=hk;go_wp2_with fail
 refine (o_u _).mono ?_;rintro e w1 ⟨tb,rfl,aD,V⟩;have H1:Hid (TapC w1 O.heap.size tb []/\Below O.heap.size O w1):=⟨aD,V⟩
 replace g0:=a_h V g0;replace g1:=a_h V g1;replace x0:=a_h V x0;replace x1:=a_h V x1;replace x2:=a_h V x2;have kg:=a_g g0;have kx:=a_g x0;clear aD V;go_wp2_with fail
 obtain ⟨R,eR⟩:∃ R,rnF d ls [] P X=R:=⟨_,rfl⟩
 have cc:=q_U O.heap.size tb [] NodesG.nil (by simp) d ls P X HN.out.2.2.1.2.1 HN.out.2.2.2.1.2.1 aA.out p p2 pp px n c n2 c2 np cp nx cx aI (by omega) w1 H1.out.1 (show Hid _ from fun W hW=>hT.out.up (a_c M.out (H1.out.2.trans hW))) (Hid.up_kz hK (a_c M.out H1.out.2)) (fun W' hR=>HN.out.1.up (a_c M.out (H1.out.2.trans hR.bel))) (fun W' hR=>HN.out.2.1.up (a_c M.out (H1.out.2.trans hR.bel))) (fun W' hR=>HN.out.2.2.1.1.up (a_c M.out (H1.out.2.trans hR.bel))) HN.out.2.2.1.2.2 (fun W' hR=>HN.out.2.2.2.1.1.up (a_c M.out (H1.out.2.trans hR.bel)));have ac:Hid (RnO R P):=by rw [<- eR];exact HO.out
 have an:Hid (gfR k cl y R=T):=by show _=_;rw [<- eR,<- HT.out];exact (if_pos ⟨aJ,aL⟩).symm
 rw [eR] at cc;clear eR HO HT aA;refine cc.mono ?_;rintro e w2 ⟨v2,rfl,am,ah,ar⟩;obtain ⟨RE,RN,Rl,U⟩:=R;dsimp only at am ah;have H2:Hid (TapC w2 O.heap.size tb RN/\Below O.heap.size O w2/\OwnK .i64 3 w2 w1.heap.size v2 U):=⟨ah,H1.out.2.trans ar,am⟩
 have aY:Hid (O.heap.size<=w1.heap.size):=H1.out.2.size;replace x0:=a_d HG.out.1 H2.out.2.1;replace x1:=a_d HG.out.2.1 H2.out.2.1;replace x2:=a_d HG.out.2.2 H2.out.2.1;replace kx:=a_g x0;clear cc am ah ar g0 g1 kg H1;by_cases hE:RE=0
 case neg=>
  have et:T=(RE,[],0):=by rw [<- an.out];exact if_neg hE
  subst et;have aG:(RE != 0)=true:=by simpa using hE
  go_wp2;exact bodyPost_ret (v:=.tuple #[.slice none 0 0,.int .i64 0,.int .i64 RE]) (by simp [results,Tryz.results9,go_sem]) rfl ⟨_,rfl,OwnK.nil _ _ _ _,a_c M.out H2.out.2.1⟩
 subst hE;go_wp2_with fail
 have cc:=k_4 O.heap.size tb RN ac.out.g ac.out.l k Rl cl ⟨aJ,aL⟩ px py nx cx ny cy y HN.out.2.2.2.2.2.1 w2 H2.out.1 (show Hid _ from fun W hW=>hT.out.up (a_c M.out (H2.out.2.1.trans hW))) (fun W' hb _=>HN.out.2.2.2.2.1.up (a_c M.out (H2.out.2.1.trans hb)));obtain ⟨E,eE⟩:∃ R,gkE k Rl cl RN y=R:=⟨_,rfl⟩
 obtain ⟨r,er⟩:∃ R,gkR k Rl cl RN y=R:=⟨_,rfl⟩
 obtain ⟨N,eN⟩:∃ R,gkN k Rl cl RN y=R:=⟨_,rfl⟩
 have ap:Hid (E=0->GkO N r U P.length):=fun h0=>by
  have:=ac.out.gk (k:=k) (cl:=cl) HN.out.2.2.2.2.2.1 rfl (by rw [<- h0];exact eE);dsimp only at this;rw [er,eN] at this;exact this
 have ab:Hid (T=if E=0 then gfT N r U else (E,[],0)):=by
  show _=_;rw [<- an.out];unfold gfR;dsimp only;rw [if_pos rfl,eE,eN,er]
 rw [eE,er,eN] at cc;clear eE er eN ac an;refine cc.mono ?_;rintro e w3 ⟨rfl,aw,aF,au,_⟩;have H3:Hid (TapC w3 O.heap.size tb N/\Below O.heap.size O w3/\OwnK .i64 3 w3 w1.heap.size v2 U):=⟨aw,H2.out.2.1.trans aF,H2.out.2.2.only au (by decide)⟩
 clear cc aw aF au H2 x0 x1 x2 kx;by_cases hE:E=0
 case neg=>
  have et:T=(E,[],0):=by rw [ab.out];exact if_neg hE
  clear ab;subst et;have aG:(E != 0)=true:=by simpa using hE
  go_wp2;exact bodyPost_ret (v:=.tuple #[.slice none 0 0,.int .i64 0,.int .i64 E]) (by simp [results,Tryz.results9,go_sem]) rfl ⟨_,rfl,OwnK.nil _ _ _ _,a_c M.out H3.out.2.1⟩
 subst hE;have G:=ap.out rfl;have I:Hid (GkO N r U P.length):=G;have af:Hid (T=gfT N r U):=ab.out.trans (if_pos rfl);clear ab ap G;go_wp2_with fail
 have cc:=k_3 O.heap.size tb N I.out.g I.out.v I.out.k I.out.l r w3 H3.out.1 (Hid.up_tz hT (a_c M.out H3.out.2.1));obtain ⟨E,eE⟩:∃ E,swE N r=E:=⟨_,rfl⟩
 obtain ⟨L,eL⟩:∃ L,swL N r=L:=⟨_,rfl⟩
 rw [eE,eL] at cc;refine cc.mono ?_;rintro e w4 ⟨v4,rfl,ak,ad⟩;obtain ⟨p4,c4,rfl,aW⟩:=ak.form;have H4:Hid (TapC w4 O.heap.size tb N/\Below O.heap.size O w4/\OwnK .i64 3 w4 w1.heap.size v2 U/\OwnTs w4 w3.heap.size (.slice p4 L.length c4) L):=⟨H3.out.1.up ad,a_c H3.out.2.1 ad,H3.out.2.2.up ad,ak⟩
 have HE:Hid (swE N r=E/\swL N r=L):=⟨eE,eL⟩
 clear cc ak ad H3 eE eL;by_cases hE:E=0
 case neg=>
  have et:T=(E,[],0):=by rw [af.out];unfold gfT;rw [HE.out.1,if_neg hE]
  clear af;subst et;have aG:(E != 0)=true:=by simpa using hE
  go_wp2;exact bodyPost_ret (v:=.tuple #[.slice none 0 0,.int .i64 0,.int .i64 E]) (by simp [results,Tryz.results9,go_sem]) rfl ⟨_,rfl,OwnK.nil _ _ _ _,a_c M.out H4.out.2.1⟩
 subst hE;obtain ⟨A,eA⟩:∃ A,(ndN N r).X.getD 0 0=A:=⟨_,rfl⟩
 have et:T=(0,d_I L U,A):=by rw [af.out];unfold gfT;rw [HE.out.1,if_pos rfl,HE.out.2,eA]
 clear af;subst et;dsimp only;obtain ⟨s0,s1,s2,s3⟩:=s_i I.out.g I.out.v HE.out.1;rw [HE.out.2] at s2 s3;obtain ⟨ri,aS⟩:=Int.eq_ofNat_of_zero_le s0.1;subst aS;rw [Int.toNat_natCast] at s2;have HL:Hid (L.length=ri+1/\(∀ i,i∈U->0<=i/\i<=(ri:Int))/\(∀ i,i∈U->(L.getD i.toNat noT).2.length=(ndN N i).X.length)/\(d_I L U).length=P.length):=⟨s2,I.out.p,fun i hi=>(s3 i (I.out.p i hi).1 (I.out.p i hi).2).2,by rw [h_a (N:=N) fun i hi=>(s3 i (I.out.p i hi).1 (I.out.p i hi).2).2];exact I.out.n⟩
 have HV:Hid (ndN N (ri:Int)=ndN N (ri:Int)/\N[ri]?=some (ndN N (ri:Int))/\(ndN N (ri:Int)).X = [A]):=by
  refine ⟨rfl,c_S (by omega),?_⟩;obtain ⟨z,ez⟩:=List.length_eq_one_iff.1 s1;rw [ez] at eA ⊢;rw [<- eA];rfl
 have a0:(ri:Int) < 512:=by have:=I.out.l;omega
 rw [s2] at aW ⊢;rw [show (ri+1:Nat)=ri+1 from rfl];clear s0 s1 s2 s3 eA;obtain ⟨p5,m5,c5,e5⟩:=H4.out.2.2.1.form_;subst e5
 have aC:U.length=m5:=by
  obtain ⟨_,_,_,e,h⟩:=H4.out.2.2.1.nums.lst;cases e;exact h.out.1
 have aO:m5<=512:=by rw [<- aC];exact I.out.m
 go_wp2_with fail
 refine (b_4 O.heap.size tb N I.out.g ri _ HV.out.2.1 w4 H4.out.1).mono ?_;rintro e w7 ⟨v7,rfl,h7,ao⟩;obtain ⟨s7,t7,rfl,ay,O7⟩:=h7;rw [HV.out.2.2] at O7;obtain ⟨aN,aQ,aV,rfl⟩:=ay.form_;obtain ⟨aR,aT,rfl,_⟩:=O7.at (by show 0 < 1;omega)
 have O7:Hid (OwnK .i64 23 w7 w4.heap.size (.slice (some ⟨aR,0,none⟩) 1 aT) [A]):=O7;have H7:Hid (Below w4.heap.size w4 w7):=ao;obtain ⟨aP,aa⟩:∃ z,w7.heap.size=z:=⟨_,rfl⟩
 clear ao ay;go_wp2_with fail
 generalize aj:World.alloc _ _=K7;have ae:Below w7.heap.size w7 K7:=by rw [<- aj];exact a_b w7 _
 have X7:VBox K7 aP A:=by
  have:=VBox.new (s:=.slice aN aQ aV) (A:=A) O7.out;rw [aj,aa] at this;exact this
 have J7:Hid (Below w.heap.size w K7/\w.heap.size<=K7.heap.size):=⟨a_c M.out (a_c H4.out.2.1 (a_c H7.out ae)),(a_c M.out (a_c H4.out.2.1 (a_c H7.out ae))).size⟩
 (try rw [aa])
 have cI:Hid (∀ W,Below K7.heap.size K7 W->Calls Tryz.prog 26 #[.slice p4 (ri+1) c4,.slice p5 m5 c5] W fun e w'=>∃ v,e = .returned v/\OwnK .i64 23 w' W.heap.size v (d_I L U)/\Below W.heap.size W w'):=fun W hW=>by
  have hh:=a_c H7.out (a_c ae hW);have a:=H4.out.2.2.2.up hh;rw [HL.out.1] at a;exact n_m _ (ri+1) m5 L U p4 p5 c4 c5 HL.out.1 (by omega) aC aO (fun i hi=>by have:=HL.out.2.1 i hi;omega) (by rw [HL.out.2.2.2];omega) W a (H4.out.2.2.1.up hh).nums
 obtain ⟨g7,b7,y0,y1,y2,y3⟩:=X7.cells;have ky:=a_a y0;clear aj ae aa O7 H7 H4 HL HV I HN;go_wp2_with fail
 refine rel [⟨2,64,OwnF K7.heap.size (d_I L U)⟩,⟨7,8,OwnF K7.heap.size (d_I L U)⟩] 8 69 (by kernel_rfl) rfl rfl (by kernel_rfl) (by rfl) ?_ ?_
 ·intro e he v W W' h hb;simp only [List.mem_cons,List.not_mem_nil,or_false] at he;rcases he with rfl|rfl
  ·exact OwnF.up h hb
  ·exact OwnF.up h hb
 apply Exists.intro;refine ⟨fun x=>?_,?_,?_⟩
 ·simp only [List.take_succ_cons,List.take_zero]
  iterate 2
   refine a_l rfl rfl ?_;apply Exists.intro;refine ⟨fun F hF hf K hK=>?_,?_⟩
   ·have hFc:=hF.cell;have hFf:=hF.frozen
    go_big_quiet_op
    first|exact hK|(apply Exists.intro;refine ⟨fun _=>?_,?_⟩;(· fail);exact hK)
   (try simp only [Act.put,sA_,sB_,sC_])
  refine a_o rfl rfl ?_ ?_
  ·intro F hF hf d;have hFc:=hF.cell;have hFf:=hF.frozen;simp [a_j,a_f,go_sem];refine (cI.out (F d) (hF.below d)).mono ?_;rintro e' w8 ⟨v8,rfl,h8,aU⟩;exact ⟨_,rfl,OwnK.low h8 (hF.below d).size,aU⟩
  iterate 4
   (try simp only [Act.put,sA_,sB_,sC_])
   refine a_l rfl rfl ?_;apply Exists.intro;refine ⟨fun F hF hf K hK=>?_,?_⟩
   ·have hFc:=hF.cell;have hFf:=hF.frozen
    go_big_quiet_op
    first|exact hK|(apply Exists.intro;refine ⟨fun _=>?_,?_⟩;(· fail);exact hK)
  (try simp only [Act.put,sA_,sB_,sC_])
  refine a_o rfl rfl ?_ ?_
  ·intro F hF hf d;have hFc:=hF.cell;have hFf:=hF.frozen;have h9:=hf _ List.mem_cons_self (by rfl) d;simp [a_j,a_f,go_sem];exact ⟨h9,Below.refl _ _⟩
  (try simp only [Act.put,sA_,sB_,sC_])
  refine b_a ?_;exact rfl
 ·intro x;simp only [b_k,List.foldl_cons,List.foldl_nil,Act.put,sA_,sB_,sC_]
 ·intro w9 xs ax hf;simp only [List.drop_succ_cons,List.drop_zero];have h9:=hf _ (List.mem_cons_of_mem _ List.mem_cons_self);obtain ⟨aq,ai⟩:∃ q,xs 7=q:=⟨_,rfl⟩
  obtain ⟨a1,aM⟩:∃ q,xs 2=q:=⟨_,rfl⟩
  simp only [ai] at h9;simp only [ai,aM];have HF:Hid (OwnK .i64 23 w9 w.heap.size aq (d_I L U)/\Below w.heap.size w w9):=⟨OwnK.low h9 J7.out.2,a_c J7.out.1 ax⟩
  clear hf h9 ax ai aM cI y0 y1 y2 y3 X7;go_wp2;exact bodyPost_ret (v:=.tuple #[aq,.int .i64 A,.int .i64 0]) (by simp [results,Tryz.results9,go_sem]) rfl ⟨_,rfl,HF.out⟩
theorem t_x {d:List Int} {ls:List Ly} {P:List Int} (h:PlC d ls P):OfC d ls P:=fun k X y cl p p2 R px py n c n2 V np cp nx cx O cy M D w U hK I E hp hx hy=>s_u d ls k P X y cl (fun J st L H=>(h J X st L H).1) (fun J st L H=>(h J X st L H).2) p p2 R px py n c n2 V np cp nx cx O cy (by omega) D w U hK I E hp hx hy
theorem s_v:q_2:=fun p O n c E L a b H w R M=>by
 refine (n_g p O n c E L a b H w R M).mono ?_;rintro e w' ⟨v,rfl,J,V,I⟩;refine ⟨v,rfl,?_,J⟩;by_cases D:n=E
 ·obtain ⟨g,rfl,_,U⟩:=I D;rw [if_pos D];exact U.wrd
 ·obtain rfl:=V D;rw [if_neg D];exact ⟨none,0,0,rfl,WdR.nil _ _⟩
theorem s_w {d:List Int} {ls:List Ly} {P:List Int} (h:PlC d ls P):SumD d ls P:=t_o (t_x h) h
theorem q_9 (d:List Int) (ls:List Ly) (P:List Int):PlC d ls P:=fun _ X st E D=>by
 rcases (m_5 _ _ _ _ _ _ st E).1 with h|h|h|h|h|h|h|h
 ·exact absurd h D
 ·rw [h];exact ⟨RkC.of (by decide) ck2,fun _=>ga2,fun _=>gb2⟩
 ·rw [h];exact ⟨RkC.of (by decide) ck4,fun _=>ga4,fun _=>gb4⟩
 ·rw [h];exact ⟨RkC.of (by decide) ck8,fun _=>ga8,fun h=>absurd h (by decide)⟩
 ·rw [h];exact ⟨RkC.of (by decide) t_w,fun _=>t_v,fun h=>absurd h (by decide)⟩
 ·rw [h];exact ⟨RkC.of (by decide) t_O,fun _=>t_J,fun _=>t_K⟩
 ·rw [h];exact ⟨RkC.of (by decide) t_P,fun _=>t_H,fun h=>absurd h (by decide)⟩
 ·rw [h];exact ⟨RkC.of (by decide) t_Q,fun _=>t_G,fun h=>absurd h (by decide)⟩
end Go.Proofs.YtjlofobnmjompaaGreatDoor.Wd
