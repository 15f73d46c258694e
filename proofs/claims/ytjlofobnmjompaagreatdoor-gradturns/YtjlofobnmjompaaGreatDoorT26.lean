/- The code's plans: their steps, add. · Tensors: what matm.Sum hands back. -/
import Derived.Test.YtjlofobnmjompaaGreatDoorT25
import Derived.Test.YtjlofobnmjompaaGreatDoorT06
import Derived.Test.YtjlofobnmjompaaGreatDoorT13
import Derived.Test.YtjlofobnmjompaaGreatDoorT12
set_option linter.unusedVariables false
set_option linter.unusedSimpArgs false
set_option maxHeartbeats 16000000
set_option maxRecDepth 16000
namespace Go.Proofs.YtjlofobnmjompaaGreatDoor.Wd
open Go.RowKit
/-- What a run may change: nothing below B, and of the rest only blocks of a tape and of a plan. -/
abbrev S4:List TypeId:=[90,109,129,126]
abbrev S2:List TypeId:=[129,126]
structure Rn (B:Nat) (W W':World):Prop where
 bel:Below B W W'
 onl:Only S2 W W'
theorem Rn.refl (B:Nat) (W:World):Rn B W W:=⟨Below.refl _ _,Only.refl _ _⟩
theorem Rn.trans {B:Nat} {a b c:World} (h:Rn B a b) (D:Rn B b c):Rn B a c:=⟨h.bel.trans D.bel,h.onl.trans D.onl⟩
theorem Rn.of {B:Nat} {a b:World} (D:B<=a.heap.size) (h:Below a.heap.size a b):Rn B a b:=⟨h.mono D,Only.of h⟩
theorem Rn.size {B:Nat} {a b:World} (h:Rn B a b):a.heap.size<=b.heap.size:=h.onl.1
structure R4 (B:Nat) (W W':World):Prop where
 bel:Below B W W'
 onl:Only S4 W W'
theorem R4.refl (B:Nat) (W:World):R4 B W W:=⟨Below.refl _ _,Only.refl _ _⟩
theorem R4.trans {B:Nat} {a b c:World} (h:R4 B a b) (D:R4 B b c):R4 B a c:=⟨h.bel.trans D.bel,h.onl.trans D.onl⟩
theorem R4.of {B:Nat} {a b:World} (D:B<=a.heap.size) (h:Below a.heap.size a b):R4 B a b:=⟨h.mono D,Only.of h⟩
theorem R4.size {B:Nat} {a b:World} (h:R4 B a b):a.heap.size<=b.heap.size:=h.onl.1
theorem Rn.r4 {B:Nat} {a b:World} (h:Rn B a b):R4 B a b:=⟨h.bel,h.onl.more (by simp)⟩
/-- Numbers that a run leaves as they are. -/
def Kept (B:Nat) (W:World) (v:Value) (l:List Int):Prop:=∀ W',R4 B W W'->Nums .i64 W' v l
theorem Kept.up {B:Nat} {W W':World} {v:Value} {l:List Int} (h:Kept B W v l) (I:Rn B W W'):Kept B W' v l:=fun H D=>h H (I.r4.trans D)
theorem Kept.nums {B:Nat} {W:World} {v:Value} {l:List Int} (h:Kept B W v l):Nums .i64 W v l:=h W (R4.refl _ _)
theorem OwnK.kept {e:TypeId} {B H:Nat} {W:World} {v:Value} {l:List Int} (h:OwnK .i64 e W H v l) (he:e∉S4):Kept B W v l:=fun W' D=>(h.only D.onl he).nums
/-- A step of a plan. -/
structure Sp where
 op:Int
 a:Int
 b:Int
 k:Int
 D:List Int
 X:List Int
 par:Bool
def StC (B:Nat) (W:World) (st:Sp) (u:List Value):Prop:=∃ p n c p2 n2 c2,u = [.int .i64 st.op,.int .i64 st.a,.int .i64 st.b,.int .i64 st.k,.slice p n c,.slice p2 n2 c2,.bool st.par]/\Kept B W (.slice p n c) st.D/\Kept B W (.slice p2 n2 c2) st.X
def StsC (B:Nat) (W:World) (sts:List Sp) (xs:List Value):Prop:=xs.length=sts.length*7/\∀ i st,sts[i]?=some st->StC B W st ((xs.drop (i*7)).take 7)
theorem StC.up {B:Nat} {W W':World} {st:Sp} {u:List Value} (h:StC B W st u) (D:Rn B W W'):StC B W' st u:=by
 obtain ⟨p,n,c,J,M,L,e,H,I⟩:=h;exact ⟨p,n,c,J,M,L,e,H.up D,I.up D⟩
theorem StsC.up {B:Nat} {W W':World} {sts:List Sp} {xs:List Value} (h:StsC B W sts xs) (D:Rn B W W'):StsC B W' sts xs:=⟨h.1,fun i st H=>(h.2 i st H).up D⟩
theorem StC.len {B:Nat} {W:World} {st:Sp} {u:List Value} (h:StC B W st u):u.length=7:=by
 obtain ⟨p,n,c,H,I,D,rfl,_⟩:=h;rfl
theorem StC.one {B:Nat} {W:World} {st:Sp} {u:List Value} (h:StC B W st u):∀ x∈u,x.oneCell'=true:=by
 obtain ⟨p,n,c,I,J,H,rfl,_⟩:=h;intro x D;simp at D;rcases D with rfl|rfl|rfl|rfl|rfl|rfl|rfl <;> rfl
theorem StsC.push {B:Nat} {W:World} {sts:List Sp} {xs:List Value} {st:Sp} {u:List Value} (h:StsC B W sts xs) (I:StC B W st u):StsC B W (sts++[st]) (xs++u):=by
 refine ⟨by rw [List.length_append,List.length_append,h.1,I.len];simp;omega,fun i s D=>?_⟩;rcases Nat.lt_or_ge i sts.length with J|J
 ·rw [List.getElem?_append_left J] at D;have L:=h.2 i s D;have M:=h.1;rw [List.drop_append_of_le_length (by omega),List.take_append_of_le_length (by rw [List.length_drop];omega)];exact L
 ·have H:i=sts.length:=by
   have:=(List.getElem?_eq_some_iff.1 D).1;simp at this;omega
  subst H;rw [List.getElem?_append_right (Nat.le_refl _)] at D;simp at D;subst D;rw [<- h.1,List.drop_left,List.take_of_length_le (by rw [I.len];exact Nat.le_refl _)];exact I
theorem StsC.nil (B:Nat) (W:World):StsC B W [] []:=⟨rfl,fun i st h=>by simp at h⟩
/-- A plan under way; what its steps name lay there in the world Wa. -/
def PlanO (B:Nat) (Wa W:World) (pb:Nat) (sts:List Sp) (rest:List Int):Prop:=B<=pb/\Rn B Wa W/\∃ p n c p2 n2 c2 xs,W.heap[pb]?=some (.cells #[.slice p n c,.slice p2 n2 c2] 126 (0,0))/\W.ownsRow B 129 7 (.slice p n c) sts.length xs/\sts.length=n/\StsC B Wa sts xs/\Kept B Wa (.slice p2 n2 c2) rest/\n2<=c2/\rest.length=n2
theorem PlanO.up {B:Nat} {J W W':World} {I:Nat} {sts:List Sp} {rest:List Int} (h:PlanO B J W I sts rest) (D:Below W.heap.size W W'):PlanO B J W' I sts rest:=by
 obtain ⟨hb,R,p,n,c,M,U,O,xs,H,L,V⟩:=h;exact ⟨hb,R.trans (Rn.of (Nat.le_trans hb (Nat.le_of_lt (a_i H))) D),p,n,c,M,U,O,xs,(D.block _ (a_i H)).trans H,a_A (S:=[]) L (Only.of D) (by simp),V⟩
theorem PlanO.on {B:Nat} {R W:World} {D:Nat} {sts:List Sp} {rest:List Int} (h:PlanO B R W D sts rest):PlanO B W W D sts rest:=by
 obtain ⟨hb,H,p,n,c,O,V,U,xs,I,L,h3,M,J,h6⟩:=h;exact ⟨hb,Rn.refl _ _,p,n,c,O,V,U,xs,I,L,h3,M.up H,J.up H,h6⟩
theorem PlanO.size {B:Nat} {I W:World} {H:Nat} {sts:List Sp} {rest:List Int} (h:PlanO B I W H sts rest):B<=W.heap.size:=by
 obtain ⟨hb,M,p,n,c,J,O,L,xs,D,_⟩:=h;exact Nat.le_trans hb (Nat.le_of_lt (a_i D))
theorem t_R:GT Tryz.prog 95 129 7 88:=⟨Tryz.underlying95,by kernel_rfl⟩
theorem i_W {W:World} {b:Nat} {M D L H J I O:Value} {e:TypeId} (h:W.heap[b]?=some (.cells #[M,D,L,H,J,I,O] e (0,0))):W.cell? ⟨b,0,none⟩=some M/\W.cell? ⟨b,1,none⟩=some D/\W.cell? ⟨b,2,none⟩=some L/\W.cell? ⟨b,3,none⟩=some H/\W.cell? ⟨b,4,none⟩=some J/\W.cell? ⟨b,5,none⟩=some I/\W.cell? ⟨b,6,none⟩=some O:=by
 simp [World.cell?,h]
theorem r_8 {B n s b:Nat} {W:World} {v:Value} {xs:List Value} {e t:TypeId} {J:Array Value} {M:Nat×Nat} (h:W.ownsRow B e s v n xs) (hb:W.heap[b]?=some (.cells J t M)) (D:e≠t):some b≠v.ownBlock:=by
 rcases h.2 with ⟨rfl,_⟩|⟨g,L,H,rfl,_,I,_⟩
 ·intro h;cases h
 ·intro h;cases h;rw [I] at hb;cases hb;exact D rfl
theorem g_9 (B L:Nat) (sts:List Sp) (rest:List Int) (ak:sts.length<=200) (st:Sp) (p:Option Addr) (n c:Nat) (p2:Option Addr) (n2 c2:Nat) (U w:World) (hP:PlanO B U w L sts rest) (h1:Kept B U (.slice p n c) st.D) (h2:Kept B U (.slice p2 n2 c2) st.X):
  Calls Tryz.prog 59 #[.pointer (some ⟨L,0,none⟩),.agg #[.int .i64 st.op,.int .i64 st.a,.int .i64 st.b,.int .i64 st.k,.slice p n c,.slice p2 n2 c2,.bool st.par]] w fun e w'=>e = .returned (.int .i64 (sts.length:Int))/\PlanO B U w' L (sts++[st]) rest/\Rn B w w':=by
 obtain ⟨op,a,b,k,D,X,J⟩:=st;simp only [] at h1 h2 ⊢;obtain ⟨ad,aq,R,aJ,O,pR,nR,cR,xs,hb,ho,hn,hc,hk,ah,au⟩:=hP;have aH:Hid (Rn B U w):=aq;have ai:B<=w.heap.size:=Nat.le_trans ad (Nat.le_of_lt (a_i hb));obtain ⟨N,eN⟩:∃ N,sts.length=N:=⟨_,rfl⟩
 rw [eN] at ho hn ak ⊢;subst hn;have HP:Hid (B<=L/\B<=w.heap.size/\w.heap[L]?=some (.cells #[.slice R N O,.slice pR nR cR] 126 (0,0))/\w.ownsRow B 129 7 (.slice R N O) N xs/\StsC B U sts xs/\sts.length=N):=⟨ad,ai,hb,ho,hc,eN⟩
 have HQ:Hid (Kept B U (.slice pR nR cR) rest/\nR<=cR/\rest.length=nR):=⟨hk,ah,au⟩
 have HS:Hid (Kept B U (.slice p n c) D/\Kept B U (.slice p2 n2 c2) X):=⟨h1,h2⟩
 clear ad hb ho hc hk ah au h1 h2 ai eN aq;go_enter Tryz.func59,Tryz.ntmps59;go_wp2_with fail
 refine a_P (fun I ae=>?_);have V:Below w.heap.size w I:=by rw [ae];exact a_b _ _
 have ax:I.heap[w.heap.size]?=some (.cells #[.int .i64 op,.int .i64 a,.int .i64 b,.int .i64 k,.slice p n c,.slice p2 n2 c2,.bool J] 129 (0,0)):=by rw [ae];exact heap_alloc_new _ _
 have ao:Rn B w I:=Rn.of HP.out.2.1 V;have am:Hid (StC B U ⟨op,a,b,k,D,X,J⟩ [.int .i64 op,.int .i64 a,.int .i64 b,.int .i64 k,.slice p n c,.slice p2 n2 c2,.bool J]):=⟨_,_,_,_,_,_,rfl,HS.out.1,HS.out.2⟩
 have H:Hid (I.heap[L]?=some (.cells #[.slice R N O,.slice pR nR cR] 126 (0,0))/\I.ownsRow B 129 7 (.slice R N O) N xs/\StsC B U sts xs/\Kept B U (.slice pR nR cR) rest/\Rn B w I/\B<=I.heap.size):=⟨(V.block _ (a_i HP.out.2.2.1)).trans HP.out.2.2.1,a_A (S:=[]) HP.out.2.2.2.1 (Only.of V) (by simp),HP.out.2.2.2.2.1,HQ.out.1,ao,Nat.le_trans HP.out.2.1 V.size⟩
 have ag:Hid (I.heap[w.heap.size]?=some (.cells #[.int .i64 op,.int .i64 a,.int .i64 b,.int .i64 k,.slice p n c,.slice p2 n2 c2,.bool J] 129 (0,0))/\some w.heap.size≠Value.ownBlock (.slice R N O)):=⟨ax,fun h=>by have:=(World.ownsRow.lt HP.out.2.2.2.1 _ h.symm).2;omega⟩
 have aD:Hid (∀ z,Value.ownBlock (.slice R N O)=some z->z < I.heap.size):=fun z aB=>Nat.lt_of_lt_of_le (World.ownsRow.lt HP.out.2.2.2.1 z aB).2 V.size;have aC:Hid (∀ z∈([.int .i64 op,.int .i64 a,.int .i64 b,.int .i64 k,.slice p n c,.slice p2 n2 c2,.bool J]:List Value),z.oneCell'=true):=am.out.one;have ap:Hid (some L≠Value.ownBlock (.slice R N O)):=r_8 H.out.2.1 H.out.1 (by decide);clear V ax ao ae;refine d_O (by kernel_rfl) ?_;refine seg (fun q W=>match q with|false=>Below I.heap.size I W|true=>I.grownBy W (Value.ownBlock (.slice R N O))) (fun W W'=>W.grownBy W' (Value.ownBlock (.slice R N O))) 7 [⟨6,11,LitS 129 I.heap.size [.int .i64 op,.int .i64 a,.int .i64 b,.int .i64 k,.slice p n c,.slice p2 n2 c2,.bool J]⟩,⟨7,12,OwnG 129 7 B (N+1) (xs++[.int .i64 op,.int .i64 a,.int .i64 b,.int .i64 k,.slice p n c,.slice p2 n2 c2,.bool J])⟩] 0 10 21 rfl rfl (by kernel_rfl) (by rfl) ?_ ?_ ?_ ?_ ?_ ?_
 ·intro q W W' h hb;cases q
  ·exact a_c h hb
  ·exact g_N h hb
 ·exact ⟨rfl,rfl,rfl,Nat.le_refl _,fun _ _=>rfl⟩
 ·exact .inl ⟨_,List.mem_cons_of_mem _ List.mem_cons_self,rfl⟩
 ·intro e he v W W' h hb;simp only [List.mem_cons,List.not_mem_nil,or_false] at he;rcases he with rfl|rfl
  ·exact LitS.up h hb
  ·exact OwnG.up h hb
 ·intro e he aG v W W' h hc ht;simp only [List.mem_cons,List.not_mem_nil,or_false] at he;rcases he with rfl|rfl
  ·exact LitS.grown h ht aD.out
  ·exact absurd rfl aG
 apply Exists.intro;refine ⟨fun x=>?_,?_,?_⟩
 ·simp only [List.drop_succ_cons,List.drop_zero,List.take_succ_cons,List.take_zero]
  iterate 4
   refine b_Q rfl rfl ?_;apply Exists.intro;refine ⟨fun b' F hF hf K hK=>?_,?_⟩
   ·have hFc:=hF.cls
    go_big_quiet_op
    first|exact hK|(apply Exists.intro;refine ⟨fun _=>?_,?_⟩;(· fail);exact hK)
   (try simp only [Act.put,sA_,sB_,sC_])
  refine b_Q rfl rfl ?_;apply Exists.intro;refine ⟨fun b' F hF hf K hK=>?_,?_⟩
  ·have hFc:=hF.cls
   have q0:∀ d,(F d).cell? ⟨L,0,none⟩=some (.slice R N O):=fun d=>by
    have hK:I.grownBy (F d) (Value.ownBlock (.slice R N O)):=by
     cases b'
     ·exact b_d _ (hFc d)
     ·exact hFc d
    exact (e_n ((hK.block _ (a_i H.out.1) ap.out).trans H.out.1)).1.1
   clear hFc
   go_big_quiet_op
   first|exact hK|(apply Exists.intro;refine ⟨fun _=>?_,?_⟩;(· fail);exact hK)
  (try simp only [Act.put,sA_,sB_,sC_])
  refine b_Q rfl rfl ?_;apply Exists.intro;refine ⟨fun b' F hF hf K hK=>?_,?_⟩
  ·have hFc:=hF.cls
   have q0:∀ d,(F d).heap[w.heap.size]?=some (.cells #[.int .i64 op,.int .i64 a,.int .i64 b,.int .i64 k,.slice p n c,.slice p2 n2 c2,.bool J] 129 (0,0)):=fun d=>by
    have hK:I.grownBy (F d) (Value.ownBlock (.slice R N O)):=by
     cases b'
     ·exact b_d _ (hFc d)
     ·exact hFc d
    exact (hK.block _ (a_i ag.out.1) ag.out.2).trans ag.out.1
   have q1:=fun d=>(i_W (q0 d)).1;have q2:=fun d=>(i_W (q0 d)).2.1;have q3:=fun d=>(i_W (q0 d)).2.2.1;have q4:=fun d=>(i_W (q0 d)).2.2.2.1;have q5:=fun d=>(i_W (q0 d)).2.2.2.2.1;have q6:=fun d=>(i_W (q0 d)).2.2.2.2.2.1;have q7:=fun d=>(i_W (q0 d)).2.2.2.2.2.2;clear hFc q0
   go_big_quiet_op
   first|exact hK|(apply Exists.intro;refine ⟨fun _=>?_,?_⟩;(· fail);exact hK)
  (try simp only [Act.put,sA_,sB_,sC_])
  refine i_G rfl (by decide) rfl ?_ ?_
  ·intro b' F hF hf d;have hFc:=hF.cls
   have an:I.heap.size<=(F d).heap.size:=by
    cases b'
    ·exact (hFc d).size
    ·exact (hFc d).size
   simp [a_k,a_g,go_sem];exact ⟨⟨(F d).heap.size,rfl,heap_alloc_new (F d) _,an⟩,a_b _ _⟩
  (try simp only [Act.put,sA_,sB_,sC_])
  refine i_H rfl rfl rfl ?_ ?_
  ·intro W hW hf;have h7:=hf _ List.mem_cons_self (by rfl) W;obtain ⟨g7,e7,az,_⟩:=h7;simp only [] at e7;obtain ⟨g8,c8,w8,aI,aA,ab⟩:=r_7 t_R (by decide) (by decide) 95 W B (.slice R N O) N xs (a_A (S:=[]) H.out.2.1 (Only.of hW) (by simp)) g7 _ az rfl aC.out (by omega) (Nat.le_trans H.out.2.2.2.2.2 (Below.size hW));simp [d_f,c_A,execOp,resolve,invoke,builtin,Act.eval,e7,aI,Result.andThen];exact ⟨⟨g8,c8,rfl,aA⟩,d_N (b_d _ hW) ab,ab⟩
  iterate 2
   (try simp only [Act.put,sA_,sB_,sC_])
   refine b_Q rfl rfl ?_;apply Exists.intro;refine ⟨fun b' F hF hf K hK=>?_,?_⟩
   ·have hFc:=hF.cls
    go_big_quiet_op
    first|exact hK|(apply Exists.intro;refine ⟨fun _=>?_,?_⟩;(· fail);exact hK)
  (try simp only [Act.put,sA_,sB_,sC_])
  refine m_o ?_;exact rfl
 ·exact fun x=>rfl
 ·intro w8 ay ar av;refine f_H 10 (by kernel_rfl) ?_;simp only [List.drop_succ_cons,List.drop_zero];have h8:=av _ (List.mem_cons_of_mem _ List.mem_cons_self);obtain ⟨x6,e6⟩:∃ z,ay 6=z:=⟨_,rfl⟩
  obtain ⟨x7,e7⟩:∃ z,ay 7=z:=⟨_,rfl⟩
  simp only [e7] at h8;simp only [e6,e7];obtain ⟨g8,c8,rfl,h8⟩:=h8;have M:I.grownBy w8 (Value.ownBlock (.slice R N O)):=ar;have aj:Only S2 I w8:=(g_r H.out.2.1 M).more (by simp);have aw:Rn B I w8:=⟨Below.grown (Below.refl _ _) M H.out.2.2.2.2.2 fun z hz=>(World.ownsRow.lt H.out.2.1 z hz).1,aj⟩
  have aa:=(M.block _ (a_i H.out.1) ap.out).trans H.out.1;have af:Rn B I (w8.setCell ⟨L,0,none⟩ (.slice (some ⟨g8,0,none⟩) (N+1) c8)):=aw.trans ⟨(Below.refl _ _).setCell (p:=⟨L,0,none⟩) HP.out.1 _,Only.set aa (by simp)⟩;obtain ⟨⟨r0,r1⟩,_⟩:=e_n aa
  have ac:(w8.setCell ⟨L,0,none⟩ (.slice (some ⟨g8,0,none⟩) (N+1) c8)).heap[L]?=some (.cells #[.slice (some ⟨g8,0,none⟩) (N+1) c8,.slice pR nR cR] 126 (0,0)):=by
   rw [a_m aa];rfl
  have z0:=(e_n ac).1.1
  have HF:Hid (PlanO B U (w8.setCell ⟨L,0,none⟩ (.slice (some ⟨g8,0,none⟩) (N+1) c8)) L (sts++[⟨op,a,b,k,D,X,J⟩]) rest/\Rn B w (w8.setCell ⟨L,0,none⟩ (.slice (some ⟨g8,0,none⟩) (N+1) c8))):=by
   refine ⟨⟨HP.out.1,aH.out.trans (H.out.2.2.2.2.1.trans af),_,_,_,_,_,_,_,ac,?_,by rw [List.length_append,HP.out.2.2.2.2.2];rfl,H.out.2.2.1.push am.out,H.out.2.2.2.1,HQ.out.2⟩,H.out.2.2.2.2.1.trans af⟩;rw [List.length_append,HP.out.2.2.2.2.2];exact a_A (S:=[126]) h8 (Only.set aa (by simp)) (by decide)
  have aE:((N+1:Nat):Int) - 1=(N:Int):=by omega
  have aF:wrap64 (N:Int)=(N:Int):=by unfold wrap64;omega
  clear ar M aj aw af aa ac h8 av e6 e7;go_wp2;exact bodyPost_ret (v:=.int .i64 (N:Int)) (by simp [results,Tryz.results59,go_sem,aE,aF]) rfl ⟨rfl,HF.out⟩
end Go.Proofs.YtjlofobnmjompaaGreatDoor.Wd
namespace Go.Proofs.YtjlofobnmjompaaGreatDoor.Wd
open Go.RowKit Fx
/-- An order of one's own. -/
def RowO (B:Nat) (o:List Int) (v:Value) (W:World):Prop:=∃ p n c,v = .slice p n c/\OwnK .i64 3 W B (.slice p n c) o
theorem RowO.up {B:Nat} {o:List Int} {v:Value} {W W':World} (h:RowO B o v W) (D:Below W.heap.size W W'):RowO B o v W':=by
 obtain ⟨p,n,c,e,H⟩:=h;exact ⟨p,n,c,e,H.up D⟩
theorem q_O (p p2:Option Addr) (n c n2 c2:Nat) (d x:List Int) (D:Int) (hr:InR D) (hd:RI d) (hx:RI x) (bg:n<=10) (w:World) (h1:Nums .i64 w (.slice p n c) d) (h2:Nums .i64 w (.slice p2 n2 c2) x):
  Calls Tryz.prog 122 #[.agg #[.slice p n c,.slice p2 n2 c2],.int .i64 D] w fun e w'=>∃ v',e = .returned (.tuple #[v',.int .i64 (smE d x D)])/\TRes w' w.heap.size v' (smD d x D) (smV d x D)/\Below w.heap.size w w':=by
 obtain ⟨_,_,_,e4,HD⟩:=h1.lst;cases e4;obtain ⟨_,_,_,e4,HX⟩:=h2.lst;cases e4;have aV:d.length=n:=HD.out.1;obtain ⟨O,eO⟩:∃ O,c_p n D=O:=⟨_,rfl⟩
 have rO:RI O:=fun y hy=>by
  rw [<- eO] at hy;unfold c_p i_u at hy;rcases List.mem_append.1 hy with h|h
  ·obtain ⟨k,hk,rfl⟩:=List.mem_map.1 (List.mem_filter.1 h).1;have:=List.mem_range.1 hk;omega
  ·simp at h;rw [h];exact hr
 obtain ⟨E,eE⟩:∃ E,h_L d x O=E:=⟨_,rfl⟩
 obtain ⟨DD,aF⟩:∃ E,g_Y d x O=E:=⟨_,rfl⟩
 obtain ⟨VV,aJ⟩:∃ E,e_L d x O=E:=⟨_,rfl⟩
 have cL:Hid (∀ B W,B<=W.heap.size->Calls Tryz.prog 151 #[.int .i64 (n:Int),.int .i64 D] W fun e w'=>∃ u,e = .returned u/\RowO B O u w'/\Below W.heap.size W w'):=fun B W hB=>by
  rw [<- eO];refine (h_O n (by omega) D hr W).mono ?_;rintro e w' ⟨u,rfl,h,hb⟩;obtain ⟨q,m,k,rfl,_⟩:=h.nums.lst;exact ⟨_,rfl,⟨_,_,_,rfl,h.low hB⟩,hb⟩
 have cT:Hid (∀ B W B' v,B<=W.heap.size->Below w.heap.size w W->RowO B' O v W->Calls Tryz.prog 135 #[.agg #[.slice p n c,.slice p2 n2 c2],v] W fun e w'=>∃ u,e = .returned u/\TupP B DD VV E u w'/\Below W.heap.size W w'):=fun B W B' v hB hW hv=>by
  obtain ⟨q,m,k,rfl,h⟩:=hv;rw [<- eE,<- aF,<- aJ];refine (l_U p p2 q n c n2 c2 m k d x O hd rO W (h1.up hW) (h2.up hW) h.nums).mono ?_;rintro e w' ⟨u,rfl,h,hb⟩;exact ⟨_,rfl,⟨u,rfl,(h.low hB).own⟩,hb⟩
 have HE:Hid (c_p n D=O/\h_L d x O=E/\g_Y d x O=DD/\e_L d x O=VV/\d.length=n/\RI x/\InR D):=⟨eO,eE,aF,aJ,aV,hx,hr⟩
 have HN:Hid (Nums .i64 w (.slice p n c) d/\Nums .i64 w (.slice p2 n2 c2) x):=⟨h1,h2⟩
 have a8:(n:Int)<=10:=by omega
 have br:-9223372036854775808<=D/\D<=9223372036854775807:=hr;obtain ⟨sE,aE⟩:∃ e,smE d x D=e:=⟨_,rfl⟩
 obtain ⟨sD,ax⟩:∃ e,smD d x D=e:=⟨_,rfl⟩
 obtain ⟨sV,az⟩:∃ e,smV d x D=e:=⟨_,rfl⟩
 rw [aE,ax,az];have HM:Hid (smE d x D=sE/\smD d x D=sD/\smV d x D=sV):=⟨aE,ax,az⟩
 haveI:Nonempty World:=⟨w⟩
 clear aE ax az eO eE aF aJ rO hd hx h1 h2 aV hr;go_enter Tryz.func122,Tryz.ntmps122;go_wp2_with fail
 refine a_P (fun V ap=>?_);have B0:Below w.heap.size w V:=by rw [ap];go_grown
 have XA:Hid (Cel V w.heap.size (.slice p n c) (.slice p2 n2 c2)):=by show Cel _ _ _ _;unfold Cel;rw [ap];simp [go_sem]
 have XR:Hid (Cel V (w.heap.size+1) (.slice none 0 0) (.slice none 0 0)):=by show Cel _ _ _ _;unfold Cel;rw [ap];simp [go_sem]
 have aU:Hid (Below w.heap.size w V):=B0;clear ap B0;obtain ⟨a0,a1,_,_⟩:=XA.out;have a9:=a_a a0;refine l_v [⟨5,17,RowO V.heap.size O⟩,⟨6,18,TupP V.heap.size DD VV E⟩,⟨7,11,TupP V.heap.size DD VV E⟩,⟨8,19,OwnT V.heap.size DD VV⟩,⟨10,6,NewC V.heap.size⟩] 11 66 (by kernel_rfl) rfl rfl 9 _ rfl (by decide) rfl (by kernel_rfl) (by kernel_rfl) (fun _ _ _ _ h=>h) (by rfl) ?_ ?_
 ·intro e he v W W' h hb;simp only [List.mem_cons,List.not_mem_nil,or_false] at he;rcases he with rfl|rfl|rfl|rfl|rfl
  ·exact RowO.up h hb
  ·exact TupP.up h hb
  ·exact TupP.up h hb
  ·exact OwnT.up h hb
  ·exact NewC.up h hb
 apply Exists.intro;refine ⟨?yl1,?wk1,?pk1,?rest1⟩
 case wk1=>
  intro x;simp only [List.take_succ_cons,List.take_zero]
  iterate 5
   refine a_n rfl rfl ?_;apply Exists.intro;refine ⟨fun F hF hf K hK=>?_,?_⟩
   ·have hFc:=hF.cell;have hFf:=hF.frozen
    go_big_quiet_op
    exact hK
   (try simp only [c_J])
  refine a_p rfl rfl ?_ ?_
  ·intro F hF hf d;have hFc:=hF.cell;have hFf:=hF.frozen;simp [a_k,a_g,go_sem];refine (cL.out V.heap.size (F d) (hF.below d).size).mono ?_;rintro e' w8 ⟨v8,rfl,h8,aI⟩;exact ⟨_,rfl,h8,aI⟩
  (try simp only [c_J])
  refine a_p rfl rfl ?_ ?_
  ·intro F hF hf d;have hFc:=hF.cell;have hFf:=hF.frozen;have h9:=hf _ List.mem_cons_self (by rfl) d;simp [a_k,a_g,go_sem];refine (cT.out V.heap.size (F d) _ _ (hF.below d).size (a_c aU.out (hF.below d)) h9).mono ?_;rintro e' w8 ⟨v8,rfl,h8,aI⟩;exact ⟨_,rfl,h8,aI⟩
  (try simp only [c_J])
  refine a_p rfl rfl ?_ ?_
  ·intro F hF hf d;have hFc:=hF.cell;have hFf:=hF.frozen;have h9:=hf _ (List.mem_cons_of_mem _ List.mem_cons_self) (by rfl) d;simp [a_k,a_g,go_sem];exact ⟨h9,Below.refl _ _⟩
  (try simp only [c_J])
  refine a_p rfl rfl ?_ ?_
  ·intro F hF hf d;have hFc:=hF.cell;have hFf:=hF.frozen;have h9:=hf _ (List.mem_cons_of_mem _ (List.mem_cons_of_mem _ List.mem_cons_self)) (by rfl) d;obtain ⟨u9,e9,o9⟩:=h9;simp only [] at e9;simp [a_k,a_g,go_sem,e9];exact ⟨o9,Below.refl _ _⟩
  (try simp only [c_J])
  refine a_n rfl rfl ?_;apply Exists.intro;refine ⟨fun F hF hf K hK=>?_,?_⟩
  ·have hFc:=hF.cell;have hFf:=hF.frozen;have h9:=hf _ (List.mem_cons_of_mem _ (List.mem_cons_of_mem _ List.mem_cons_self)) (by rfl);obtain ⟨u9,e9,_⟩:=h9 w;simp only [] at e9
   go_big_quiet_op
   exact hK
  (try simp only [c_J])
  refine a_p rfl rfl ?_ ?_
  ·intro F hF hf d;have hFc:=hF.cell;have hFf:=hF.frozen;simp [a_k,a_g,go_sem];exact ⟨⟨(F d).heap.size,rfl,by show ((F d).heap.push _)[(F d).heap.size]?=_;simp,(hF.below d).size⟩,a_b _ _⟩
  (try simp only [c_J])
  refine b_f ?_;exact rfl
 case pk1=>
  intro x;simp only [b_n,List.foldl_cons,List.foldl_nil,Act.put,sA_,sB_,sC_]
 case yl1=>
  intro x hx;obtain ⟨W9,u9,e9,_⟩:=hx _ (List.mem_cons_of_mem _ (List.mem_cons_of_mem _ List.mem_cons_self)) (by rfl);simp only [] at e9;refine ⟨.int .i64 E,fun t ht=>?_,.inl ⟨by rfl,fun w=>?_⟩⟩
  ·cases ht;rfl
  ·simp [execOp,Act.eval,e9,go_sem]
 intro z1 xs aq hf;simp only [List.drop_succ_cons,List.drop_zero];have bf:=hf _ (List.mem_cons_of_mem _ (List.mem_cons_of_mem _ (List.mem_cons_of_mem _ List.mem_cons_self)));have hN:=hf _ (List.mem_cons_of_mem _ (List.mem_cons_of_mem _ (List.mem_cons_of_mem _ (List.mem_cons_of_mem _ List.mem_cons_self))));obtain ⟨U,M,I,R,L,J,ev,o1,o2⟩:=bf;obtain ⟨g6,eb,ah,ay⟩:=hN;simp only [] at ev eb;obtain ⟨x5,e5⟩:∃ q,xs 5=q:=⟨_,rfl⟩
 obtain ⟨x6,e6⟩:∃ q,xs 6=q:=⟨_,rfl⟩
 obtain ⟨x7,e7⟩:∃ q,xs 7=q:=⟨_,rfl⟩
 simp only [ev,eb,e5,e6,e7];have bd:=c_o ah;have f1:=o1.off_type ah (by decide);have f2:=o2.off_type ah (by decide);have hS:Below V.heap.size V (set2 z1 g6 (.slice U M I) (.slice R L J)):=a_7 aq g6 ay _ _;have HO:Hid (OwnK .i64 3 (set2 z1 g6 (.slice U M I) (.slice R L J)) V.heap.size (.slice U M I) DD/\OwnK .i64 23 (set2 z1 g6 (.slice U M I) (.slice R L J)) V.heap.size (.slice R L J) VV/\V.heap.size<=g6):=⟨o1.stay (Stay.set2 _ _ _) f1,o2.stay (Stay.set2 _ _ _) f2,ay⟩
 have am:Hid (Cel (set2 z1 g6 (.slice U M I) (.slice R L J)) g6 (.slice U M I) (.slice R L J)):=(c_o ah).set _ _;have ab:Hid (Below w.heap.size w (set2 z1 g6 (.slice U M I) (.slice R L J))/\Below V.heap.size V (set2 z1 g6 (.slice U M I) (.slice R L J))):=⟨a_c aU.out hS,hS⟩
 obtain ⟨c0,c1,a3,bb⟩:=bd;have cz:=a_a c0;clear hf e5 e6 e7 ev eb f1 f2 o1 o2 cL cT a0 a1 a9 hS ay aq ah;by_cases hs:smP d x D
 ·obtain ⟨hp,aK,aD⟩:=hs;obtain ⟨a,ga,rfl⟩:=b_k hp.1;obtain ⟨s,rfl⟩:=Int.eq_ofNat_of_zero_le aK;rw [a_v] at aD;have ac:s < a.length:=by omega
  have av:x.length=a_e a:=by have:=hp.2;rw [a_o] at this;exact this
  have aH:a.length=n:=by have:=HE.out.2.2.2.2.1;rw [a_v] at this;exact this
  obtain ⟨k1,k2,k3,k4⟩:=q_a ga av s ac;rw [aH,HE.out.1] at k1 k2 k3 k4;have hE:E=0:=by rw [<- HE.out.2.1];exact k1
  rw [HE.out.2.2.1] at k2;rw [HE.out.2.2.2.1] at k3 k4;subst hE k2;have ao:smP (itl a) x (s:Int):=⟨hp,aK,by rw [a_v];exact aD⟩
  have aG:sE=0:=by rw [<- HM.out.1];exact if_pos ao
  have aA:sD=itl (b_j a s):=by rw [<- HM.out.2.1];unfold smD;rw [if_pos ao,a_o];rfl
  have ag:sV=o_6 a s x:=by rw [<- HM.out.2.2];unfold smV;rw [if_pos ao,a_o];rfl
  subst aG aA;obtain ⟨C,eC⟩:∃ C,a.getD s 0=C:=⟨_,rfl⟩
  obtain ⟨N,eN⟩:∃ N,a_e (b_j a s)=N:=⟨_,rfl⟩
  have ak:N*C=a_e a:=by rw [<- eN,<- eC];exact d_w a s ac
  have aY:1<=C:=by rw [<- eC];exact j_G ga s ac
  have aR:1<=N:=by rw [<- eN];exact (d_a ga s ac).pos
  have aZ:N<=4096:=by rw [<- eN];exact (d_a ga s ac).2.2
  have a4:C<=4096:=by have:=Nat.mul_le_mul_right C aR;rw [ak,Nat.one_mul] at this;have:=ga.2.2;omega
  have aO:n2=N*C:=by rw [ak,<- av];exact HX.out.1.symm
  have hQ:(n2:Int) / (C:Int)=(N:Int):=by
   rw [aO]
   push_cast
   exact Int.mul_ediv_cancel _ (by omega)
  rw [eC,eN] at k4;rw [eC] at HO
  have HS:Hid (sV=o_6 a s x/\sV.length=N/\VV.length=N*C/\(∀ i k,i < N->k < C->VV.getD (i*C+k) 0=x.getD ((i / a_e (a.drop (s+1))*C+k)*a_e (a.drop (s+1))+i % a_e (a.drop (s+1))) 0)/\a.getD s 0=C/\a_e (b_j a s)=N/\RI VV/\a.length=n/\s < a.length/\N*C<=4096):=by
   refine ⟨ag,by rw [ag,n_V,eN],by rw [k3,ak],k4,eC,eN,fun y hy=>?_,aH,ac,by rw [ak];exact ga.2.2⟩;rw [<- HE.out.2.2.2.1] at hy;unfold e_L at hy
   split at hy
   ·obtain ⟨i,_,rfl⟩:=List.mem_map.1 hy;exact b_J HE.out.2.2.2.2.2.1 _
   ·cases hy
  obtain ⟨q,o,rfl,aQ⟩:=HD.out.2 s (by omega);rw [a_O,eC] at aQ;have bn:(s:Int) < (n:Int):=by omega
  have bk:1<=(C:Int)/\(C:Int)<=4096:=by omega
  have bt:1<=(N:Int)/\(N:Int)<=4096:=by omega
  have bj:(n2:Int)<=4096:=by have:=HS.out.2.2.2.2.2.2.2.2.2;omega
  have bh:1<=(n:Int):=by omega
  obtain ⟨n',aT⟩:∃ n',n=n'+1:=⟨n - 1,by omega⟩
  have en:(n:Int) - 1=(n':Int):=by omega
  have Hn:Hid (n=n'+1):=aT;clear hp aK aD av aH k1 k3 k4 ao ag eC eN ak aY a4 aR aZ aO ac ga aT;obtain ⟨Wz,aW⟩:∃ Wz,(set2 z1 g6 (.slice U M I) (.slice R L J))=Wz:=⟨_,rfl⟩
  rw [aW] at HO ab am;obtain ⟨q0,q1,_,_⟩:=am.out;obtain ⟨a0,a1,_,_⟩:=XA.out.up ab.out.2;have q9:=a_a q0;have a9:=a_a a0;have ua:=a_d aQ ab.out.1;have a2:=a_a ua;go_wp2_with (at_make;refine a_z k_u (by decide) _ rfl (.tmp 34) (.tmp 34) rfl .i64 .i64 N N N rfl rfl rfl rfl (by omega) Wz.heap.size Wz (Nat.le_refl _) (Below.refl _ _) ?_;intro w4 aC B4 a7;clear a7)
  clear q0 q1 a0 a1 q9 a9 ua a2 aW c0 c1 a3 bb cz;obtain ⟨g,hg⟩:∃ g,Wz.heap.size=g:=⟨_,rfl⟩
  rw [hg] at aC ⊢;have af:Hid (Below w.heap.size w w4/\Below V.heap.size V w4/\Below Wz.heap.size Wz w4):=⟨a_c ab.out.1 B4,a_c ab.out.2 B4,B4⟩
  have Hg:Hid (Wz.heap.size=g/\g6 < g/\V.heap.size<=g/\w.heap.size+1 < V.heap.size):=⟨hg,by rw [<- hg];exact a_a am.out.1,by rw [<- hg];exact ab.out.2.size,a_a XR.out.1⟩
  have ba:Hid (OwnK .i64 23 w4 g (.slice (some ⟨g,0,none⟩) N N) (b_K sV 0)):=by
   show OwnK _ _ _ _ _ _;rw [a_Z,HS.out.2.1];exact aC.out
  clear aC B4 hg
  go_loopg [38] N (fun gg i wr=>∃ (k:Nat),k<=N/\gg=N - k/\i = .int .i64 (k:Int)/\Hid (OwnK .i64 23 wr g (.slice (some ⟨g,0,none⟩) N N) (b_K sV k))/\Hid (Below w.heap.size w wr/\Stay g w4 wr))
  case atStart=>exact ⟨0,by omega,by omega,by first|rfl|simp,ba,af.out.1,Stay.refl _ _⟩
  case round=>
   obtain ⟨k,hk,bm,rfl,au,aa⟩:=hrel;obtain ⟨R1,a6⟩:∃ R1:World,R1=wr:=⟨_,rfl⟩
   subst a6;have xA:Cel R1 w.heap.size (.slice (some ⟨q,o,none⟩) n c) (.slice p2 n2 c2):=(XA.out.up af.out.2.1).stay aa.out.2 (by have:=Hg.out;omega);have xR:Cel R1 (w.heap.size+1) (.slice none 0 0) (.slice none 0 0):=(XR.out.up af.out.2.1).stay aa.out.2 (by have:=Hg.out;omega);have x6:Cel R1 g6 (.slice U M I) (.slice R L J):=(am.out.up af.out.2.2).stay aa.out.2 (by have:=Hg.out;omega);have o7:OwnK .i64 23 R1 V.heap.size (.slice R L J) VV:=(HO.out.2.1.up af.out.2.2).stay aa.out.2 (HO.out.2.1.off_new (by have:=Hg.out;omega));have o6:OwnK .i64 3 R1 V.heap.size (.slice U M I) (itl (b_j a s++[C])):=(HO.out.1.up af.out.2.2).stay aa.out.2 (HO.out.1.off_new (by have:=Hg.out;omega));by_cases ai:k < N
   ·have bo:(k:Int) < (N:Int):=by omega
    obtain ⟨Z,eZ⟩:=r_A R k C J;obtain ⟨C1,aP⟩:∃ C1,J - k*C=C1:=⟨_,rfl⟩
    rw [aP] at eZ
    have nV:∀ W,Below R1.heap.size R1 W->Nums .i64 W (.slice Z C C1) ((List.range C).map fun j=>VV.getD (k*C+j) 0):=fun W hW=>by
     have:=n_0 N C k HS.out.2.2.1 ai o7.cap (o7.up hW).nums;rw [eZ] at this;exact this
    have rV:RI ((List.range C).map fun j=>VV.getD (k*C+j) 0):=fun y hy=>by
     obtain ⟨i,_,rfl⟩:=List.mem_map.1 hy;exact b_J HS.out.2.2.2.2.2.2.1 _
    have wT:=g_X rV (by rw [List.length_map,List.length_range];omega)
    have eT:hold (b_v ((List.range C).map fun j=>VV.getD (k*C+j) 0))=sV.getD k 0:=by
     rw [HS.out.1,p_0 a s x k (by rw [HS.out.2.2.2.2.2.1];exact ai),HS.out.2.2.2.2.1];unfold s_D b_v;rw [List.length_map,List.length_range]
     congr 1
     refine a_9 C fun j hj=>?_;rw [a_I _ _ _ _ hj,HS.out.2.2.2.1 k j ai hj]
    have aB:Hid (∀ W,Below R1.heap.size R1 W->Calls Tryz.prog 153 #[.slice Z C C1] W fun e w'=>e = .returned (wd (b_v ((List.range C).map fun j=>VV.getD (k*C+j) 0)))/\Below W.heap.size W w'):=fun W hW=>f_x Z C C1 _ rV (by omega) W (nV W hW);have aj:∀ W,Calls Tryz.prog 152 #[wd (b_v ((List.range C).map fun j=>VV.getD (k*C+j) 0))] W fun e w'=>e = .returned (.int .i64 (hold (b_v ((List.range C).map fun j=>VV.getD (k*C+j) 0))))/\Below W.heap.size W w':=fun W=>e_v _ wT W;rw [eT] at aj;obtain ⟨th,tl,et,t1,t2,t3,t4,Ht⟩:=words wT;rw [et] at aB aj;obtain ⟨Y,eY⟩:∃ Y,sV.getD k 0=Y:=⟨_,rfl⟩
    rw [eY] at aj;have HY:Hid (sV.getD k 0=Y):=eY;have aM:k*C+C<=N*C:=by have:=Nat.mul_le_mul_right C (show k+1<=N by omega);rw [Nat.add_mul,Nat.one_mul] at this;exact this
    obtain ⟨A,eA⟩:∃ A,k*C=A:=⟨_,rfl⟩
    obtain ⟨B,eB⟩:∃ B,(k+1)*C=B:=⟨_,rfl⟩
    have bp:(k:Int)*(C:Int)=(A:Int):=by rw [<- eA];push_cast;rfl
    have bu:((k:Int)+1)*(C:Int)=(B:Int):=by rw [<- eB];push_cast;rfl
    have bv:A+C=B:=by rw [<- eA,<- eB,Nat.add_mul,Nat.one_mul]
    have aN:=o7.cap;have ae:VV.length=L:=by obtain ⟨_,_,_,e4,H⟩:=o7.nums.lst;cases e4;exact H.out.1
    have be:B<=4096/\B<=L:=by
     have h1:=HS.out.2.2.2.2.2.2.2.2.2;have h2:=HS.out.2.2.1;rw [eA] at aM;omega
    rw [eA,eB] at eZ;have kc:=fun W=>l_K R L J A B (by omega) (by omega) W;rw [eZ] at kc;have bi:(B:Int)<=4096/\0<=(A:Int)/\(A:Int)<=4096:=by omega
    obtain ⟨s0,s1,_,_⟩:=x6;have s9:=a_a s0;have bq:=au;clear eT et wT rV nV eZ aP eY aM eA eB aN ae be o7 o6 xA xR;go_wp2_with fail
    refine (aB.out R1 (Below.refl _ _)).mono ?_;rintro e w6 ⟨rfl,aX⟩;have a5:Hid (Below R1.heap.size R1 w6):=aX;clear aX aB;go_wp2_with fail
    refine (aj w6).mono ?_;rintro e w7 ⟨rfl,aS⟩;have an:Below R1.heap.size R1 w7:=a_c a5.out aS;have aw:=au.out.up an;obtain ⟨aL,bs⟩:=aw.cell (by rw [a_B];exact HS.out.2.1) k ai;have bl:=a_a aL
    have H5:Hid (OwnK .i64 23 (w7.setCell ⟨g,k,none⟩ (.int .i64 Y)) g (.slice (some ⟨g,0,none⟩) N N) (b_K sV (k+1))):=by
     have:=aw.store (by rw [a_B];exact HS.out.2.1) k Y;rw [<- HY.out,b_r sV k (by rw [HS.out.2.1];exact ai)] at this;rw [<- HY.out];exact this
    have bc:w.heap.size<=g:=by have:=Hg.out;omega
    have H6:Hid (Below w.heap.size w (w7.setCell ⟨g,k,none⟩ (.int .i64 Y))/\Stay g w4 (w7.setCell ⟨g,k,none⟩ (.int .i64 Y))):=⟨(a_c aa.out.1 an).setCell (p:=⟨g,k,none⟩) bc _,(aa.out.2.up an).set _ _⟩
    clear aS an aw aj s0 s1 s9;go_wp2;go_roundg (N - (k+1))
    case measure=>omega
    case rel=>exact ⟨k+1,by omega,rfl,by first|rfl|simp,H5,H6⟩
   ·obtain rfl:k=N:=by omega
    have ad:=au.out;rw [<- HS.out.2.1,b_e,HS.out.2.1] at ad;have ae:(itl (b_j a s++[C])).length=M:=by obtain ⟨_,_,_,e4,H⟩:=o6.nums.lst;cases e4;exact H.out.1
    have ar:(b_j a s).length=n':=by
     have h1:=HS.out.2.2.2.2.2.2.2.1;have h2:=HS.out.2.2.2.2.2.2.2.2.1;have h3:=Hn.out;simp only [b_j,List.length_append,List.length_take,List.length_drop];omega
    rw [a_v,List.length_append,List.length_singleton,ar] at ae;obtain ⟨Z,eZ⟩:=d_b U 0 n' I;have kc:=fun W=>r_t U M I n' (by have:=o6.cap;omega) W;rw [eZ] at kc;rw [Nat.sub_zero,Nat.sub_zero] at kc
    have oD:OwnK .i64 3 R1 V.heap.size (.slice Z n' I) (itl (b_j a s)):=by
     have:=o6.cut n' (show n'<=M by omega);rw [eZ,Nat.sub_zero,Nat.sub_zero] at this
     have e:(itl (b_j a s++[C])).take n'=itl (b_j a s):=by
      unfold itl;rw [List.map_append,List.take_left' (by rw [List.length_map];exact ar)]
     rw [e] at this;exact this
    have HF:Hid (TRes (set2 R1 (w.heap.size+1) (.slice Z n' I) (.slice (some ⟨g,0,none⟩) k k)) w.heap.size (.agg #[.slice Z n' I,.slice (some ⟨g,0,none⟩) k k]) (itl (b_j a s)) sV/\Below w.heap.size w (set2 R1 (w.heap.size+1) (.slice Z n' I) (.slice (some ⟨g,0,none⟩) k k))):=
     ⟨⟨_,_,rfl,(oD.stay (Stay.set2 _ _ _) (oD.off (by have:=Hg.out;omega))).low (by have:=Hg.out;omega),(ad.stay (Stay.set2 _ _ _) (ad.off (by have:=Hg.out;omega))).low (by have:=Hg.out;omega)⟩,a_j aa.out.1 _ (by omega) _ _⟩
    have cf:=xR.set (.slice Z n' I) (.slice (some ⟨g,0,none⟩) k k);obtain ⟨a0,a1,_,_⟩:=xA;obtain ⟨s0,s1,_,_⟩:=x6;obtain ⟨r0,r1,r2,r3⟩:=xR;obtain ⟨y0,y1,_,_⟩:=cf;have a9:=a_a a0;have s9:=a_a s0;clear ad o6 o7 oD eZ ae ar;go_wp2;exact bodyPost_ret (v:=.tuple #[.agg #[.slice Z n' I,.slice (some ⟨g,0,none⟩) k k],.int .i64 0]) (by simp [results,Tryz.results122,go_sem,y0,y1]) rfl ⟨_,rfl,HF.out⟩
 ·obtain ⟨k1,k2,k3,k4,k5,k6⟩:=p_9 hs;rw [HE.out.2.2.2.2.1,HE.out.1] at k4 k5 k6;have hE:E=1:=by rw [<- HE.out.2.1];exact k4
  have aG:sE=1:=by rw [<- HM.out.1];exact k1
  have aA:sD = []:=by rw [<- HM.out.2.1];exact k2
  have ag:sV = []:=by rw [<- HM.out.2.2];exact k3
  subst hE aG aA ag;clear k1 k2 k3 k4 k5 k6 hs;have xr:=XR.out.up ab.out.2;have BF:=a_j ab.out.1 (w.heap.size+1) (by omega) (.slice none 0 0) (.slice none 0 0);have cf:=xr.set (.slice none 0 0) (.slice none 0 0);obtain ⟨r0,r1,r2,r3⟩:=xr;obtain ⟨y0,y1,_,_⟩:=cf;go_wp2;exact bodyPost_ret (v:=.tuple #[.agg #[.slice none 0 0,.slice none 0 0],.int .i64 1]) (by simp [results,Tryz.results122,go_sem,y0,y1]) rfl ⟨_,rfl,TRes.none _ _,BF⟩
end Go.Proofs.YtjlofobnmjompaaGreatDoor.Wd
