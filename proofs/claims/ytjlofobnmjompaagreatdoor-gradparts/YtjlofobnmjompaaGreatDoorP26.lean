/- The code's plans: their steps, add. · Te -/
import Derived.Test.YtjlofobnmjompaaGreatDoorP25
set_option linter.unusedVariables false
set_option linter.unusedSimpArgs false
set_option maxHeartbeats 16000000
set_option maxRecDepth 16000
namespace Go.Proofs.YtjlofobnmjompaaGreatDoor.Wd
open Go.RowKit
/-- What a run may change: nothing below B, and of the rest only blocks of a tape and of a plan. -/
abbrev S4:List TypeId:=[90,109,129,126]
abbrev S2:List TypeId:=[129,126]
structure Rn (B:Nat) (W W':World):Prop where
 bel:Below B W W'
 onl:Only S2 W W'
theorem Rn.refl (B:Nat) (W:World):Rn B W W:=⟨Below.refl _ _,Only.refl _ _⟩
theorem Rn.trans {B:Nat} {a b c:World} (h:Rn B a b) (D:Rn B b c):Rn B a c:=⟨h.bel.trans D.bel,h.onl.trans D.onl⟩
theorem Rn.of {B:Nat} {a b:World} (D:B<=a.heap.size) (h:Below a.heap.size a b):Rn B a b:=⟨h.mono D,Only.of h⟩
theorem Rn.size {B:Nat} {a b:World} (h:Rn B a b):a.heap.size<=b.heap.size:=h.onl.1
structure R4 (B:Nat) (W W':World):Prop where
 bel:Below B W W'
 onl:Only S4 W W'
theorem R4.refl (B:Nat) (W:World):R4 B W W:=⟨Below.refl _ _,Only.refl _ _⟩
theorem R4.trans {B:Nat} {a b c:World} (h:R4 B a b) (D:R4 B b c):R4 B a c:=⟨h.bel.trans D.bel,h.onl.trans D.onl⟩
theorem R4.of {B:Nat} {a b:World} (D:B<=a.heap.size) (h:Below a.heap.size a b):R4 B a b:=⟨h.mono D,Only.of h⟩
theorem R4.size {B:Nat} {a b:World} (h:R4 B a b):a.heap.size<=b.heap.size:=h.onl.1
theorem Rn.r4 {B:Nat} {a b:World} (h:Rn B a b):R4 B a b:=⟨h.bel,h.onl.more (by simp)⟩
/-- Numbers that a run leaves as they are. -/
def Kept (B:Nat) (W:World) (v:Value) (l:List Int):Prop:=∀ W',R4 B W W'->Nums .i64 W' v l
theorem Kept.up {B:Nat} {W W':World} {v:Value} {l:List Int} (h:Kept B W v l) (E:Rn B W W'):Kept B W' v l:=fun D H=>h D (E.r4.trans H)
theorem Kept.nums {B:Nat} {W:World} {v:Value} {l:List Int} (h:Kept B W v l):Nums .i64 W v l:=h W (R4.refl _ _)
theorem OwnK.kept {e:TypeId} {B E:Nat} {W:World} {v:Value} {l:List Int} (h:OwnK .i64 e W E v l) (he:e∉S4):Kept B W v l:=fun W' D=>(h.only D.onl he).nums
theorem Kept.below {B:Nat} {w W:World} {v:Value} {l:List Int} (h:Nums .i64 w v l) (E:w.heap.size<=B) (H:Below B w W):Kept B W v l:=fun W' D=>h.up ((H.trans D.bel).mono E)
/-- A step of a plan. -/
structure Sp where
 op:Int
 a:Int
 b:Int
 k:Int
 D:List Int
 X:List Int
 par:Bool
def StC (B:Nat) (W:World) (st:Sp) (u:List Value):Prop:=∃ p n c p2 n2 c2,u = [.int .i64 st.op,.int .i64 st.a,.int .i64 st.b,.int .i64 st.k,.slice p n c,.slice p2 n2 c2,.bool st.par]/\Kept B W (.slice p n c) st.D/\Kept B W (.slice p2 n2 c2) st.X
def StsC (B:Nat) (W:World) (sts:List Sp) (xs:List Value):Prop:=xs.length=sts.length*7/\∀ i st,sts[i]?=some st->StC B W st ((xs.drop (i*7)).take 7)
theorem StC.up {B:Nat} {W W':World} {st:Sp} {u:List Value} (h:StC B W st u) (D:Rn B W W'):StC B W' st u:=by
 obtain ⟨p,n,c,I,L,E,e,J,H⟩:=h;exact ⟨p,n,c,I,L,E,e,J.up D,H.up D⟩
theorem StsC.up {B:Nat} {W W':World} {sts:List Sp} {D:List Value} (h:StsC B W sts D) (E:Rn B W W'):StsC B W' sts D:=⟨h.1,fun i st H=>(h.2 i st H).up E⟩
theorem StC.len {B:Nat} {W:World} {st:Sp} {u:List Value} (h:StC B W st u):u.length=7:=by
 obtain ⟨p,n,c,E,H,D,rfl,_⟩:=h;rfl
theorem StC.one {B:Nat} {W:World} {st:Sp} {u:List Value} (h:StC B W st u):∀ x∈u,x.oneCell'=true:=by
 obtain ⟨p,n,c,H,I,E,rfl,_⟩:=h;intro x D;simp at D;rcases D with rfl|rfl|rfl|rfl|rfl|rfl|rfl <;> rfl
theorem StsC.push {B:Nat} {W:World} {sts:List Sp} {I:List Value} {st:Sp} {u:List Value} (h:StsC B W sts I) (E:StC B W st u):StsC B W (sts++[st]) (I++u):=by
 refine ⟨by rw [List.length_append,List.length_append,h.1,E.len];simp;omega,fun i s D=>?_⟩;rcases Nat.lt_or_ge i sts.length with J|J
 ·rw [List.getElem?_append_left J] at D;have L:=h.2 i s D;have M:=h.1;rw [List.drop_append_of_le_length (by omega),List.take_append_of_le_length (by rw [List.length_drop];omega)];exact L
 ·have H:i=sts.length:=by
   have:=(List.getElem?_eq_some_iff.1 D).1;simp at this;omega
  subst H;rw [List.getElem?_append_right (Nat.le_refl _)] at D;simp at D;subst D;rw [<- h.1,List.drop_left,List.take_of_length_le (by rw [E.len];exact Nat.le_refl _)];exact E
theorem StsC.nil (B:Nat) (W:World):StsC B W [] []:=⟨rfl,fun i st h=>by simp at h⟩
/-- A plan under way; what its steps name lay there in the world Wa. -/
def PlanO (B:Nat) (Wa W:World) (pb:Nat) (sts:List Sp) (rest:List Int):Prop:=B<=pb/\Rn B Wa W/\∃ p n c p2 n2 c2 xs,W.heap[pb]?=some (.cells #[.slice p n c,.slice p2 n2 c2] 126 (0,0))/\W.ownsRow B 129 7 (.slice p n c) sts.length xs/\sts.length=n/\StsC B Wa sts xs/\Kept B Wa (.slice p2 n2 c2) rest/\n2<=c2/\rest.length=n2
theorem PlanO.up {B:Nat} {H W W':World} {I:Nat} {sts:List Sp} {rest:List Int} (h:PlanO B H W I sts rest) (D:Below W.heap.size W W'):PlanO B H W' I sts rest:=by
 obtain ⟨hb,R,p,n,c,O,V,L,J,E,M,U⟩:=h;exact ⟨hb,R.trans (Rn.of (Nat.le_trans hb (Nat.le_of_lt (a_i E))) D),p,n,c,O,V,L,J,(D.block _ (a_i E)).trans E,a_z (S:=[]) M (Only.of D) (by simp),U⟩
theorem PlanO.on {B:Nat} {H W:World} {E:Nat} {sts:List Sp} {rest:List Int} (h:PlanO B H W E sts rest):PlanO B W W E sts rest:=by
 obtain ⟨hb,D,p,n,c,R,n2,M,L,U,O,h3,I,V,J⟩:=h;exact ⟨hb,Rn.refl _ _,p,n,c,R,n2,M,L,U,O,h3,I.up D,V.up D,J⟩
theorem PlanO.size {B:Nat} {D W:World} {H:Nat} {sts:List Sp} {rest:List Int} (h:PlanO B D W H sts rest):B<=W.heap.size:=by
 obtain ⟨hb,M,p,n,c,L,O,J,I,E,_⟩:=h;exact Nat.le_trans hb (Nat.le_of_lt (a_i E))
theorem t_M:GT Tryz.prog 95 129 7 88:=⟨Tryz.underlying95,by kernel_rfl⟩
theorem i_W {W:World} {b:Nat} {J D L E H I M:Value} {e:TypeId} (h:W.heap[b]?=some (.cells #[J,D,L,E,H,I,M] e (0,0))):W.cell? ⟨b,0,none⟩=some J/\W.cell? ⟨b,1,none⟩=some D/\W.cell? ⟨b,2,none⟩=some L/\W.cell? ⟨b,3,none⟩=some E/\W.cell? ⟨b,4,none⟩=some H/\W.cell? ⟨b,5,none⟩=some I/\W.cell? ⟨b,6,none⟩=some M:=by
 simp [World.cell?,h]
theorem r_7 {B n s b:Nat} {W:World} {v:Value} {H:List Value} {e t:TypeId} {E:Array Value} {L:Nat×Nat} (h:W.ownsRow B e s v n H) (hb:W.heap[b]?=some (.cells E t L)) (D:e≠t):some b≠v.ownBlock:=by
 rcases h.2 with ⟨rfl,_⟩|⟨g,cap,I,rfl,_,J,_⟩
 ·intro h;cases h
 ·intro h;cases h;rw [J] at hb;cases hb;exact D rfl
theorem g_6 (B J:Nat) (sts:List Sp) (rest:List Int) (am:sts.length<=200) (st:Sp) (p:Option Addr) (n c:Nat) (p2:Option Addr) (n2 c2:Nat) (R w:World) (hP:PlanO B R w J sts rest) (h1:Kept B R (.slice p n c) st.D) (h2:Kept B R (.slice p2 n2 c2) st.X):
  Calls Tryz.prog 59 #[.pointer (some ⟨J,0,none⟩),.agg #[.int .i64 st.op,.int .i64 st.a,.int .i64 st.b,.int .i64 st.k,.slice p n c,.slice p2 n2 c2,.bool st.par]] w fun e w'=>e = .returned (.int .i64 (sts.length:Int))/\PlanO B R w' J (sts++[st]) rest/\Rn B w w':=by
 obtain ⟨op,a,b,k,D,X,I⟩:=st;simp only [] at h1 h2 ⊢;obtain ⟨ag,ap,O,aJ,M,pR,nR,cR,xs,hb,ho,hn,hc,hk,an,au⟩:=hP;have aH:Hid (Rn B R w):=ap;have ax:B<=w.heap.size:=Nat.le_trans ag (Nat.le_of_lt (a_i hb));obtain ⟨N,eN⟩:∃ N,sts.length=N:=⟨_,rfl⟩
 rw [eN] at ho hn am ⊢;subst hn;have V:Hid (B<=J/\B<=w.heap.size/\w.heap[J]?=some (.cells #[.slice O N M,.slice pR nR cR] 126 (0,0))/\w.ownsRow B 129 7 (.slice O N M) N xs/\StsC B R sts xs/\sts.length=N):=⟨ag,ax,hb,ho,hc,eN⟩
 have HQ:Hid (Kept B R (.slice pR nR cR) rest/\nR<=cR/\rest.length=nR):=⟨hk,an,au⟩
 have HS:Hid (Kept B R (.slice p n c) D/\Kept B R (.slice p2 n2 c2) X):=⟨h1,h2⟩
 clear ag hb ho hc hk an au h1 h2 ax eN ap;go_enter Tryz.func59,Tryz.ntmps59;go_wp2_with fail
 refine a_Q (fun H ac=>?_);have U:Below w.heap.size w H:=by rw [ac];exact a_b _ _
 have ar:H.heap[w.heap.size]?=some (.cells #[.int .i64 op,.int .i64 a,.int .i64 b,.int .i64 k,.slice p n c,.slice p2 n2 c2,.bool I] 129 (0,0)):=by rw [ac];exact heap_alloc_new _ _
 have aq:Rn B w H:=Rn.of V.out.2.1 U;have av:Hid (StC B R ⟨op,a,b,k,D,X,I⟩ [.int .i64 op,.int .i64 a,.int .i64 b,.int .i64 k,.slice p n c,.slice p2 n2 c2,.bool I]):=⟨_,_,_,_,_,_,rfl,HS.out.1,HS.out.2⟩
 have E:Hid (H.heap[J]?=some (.cells #[.slice O N M,.slice pR nR cR] 126 (0,0))/\H.ownsRow B 129 7 (.slice O N M) N xs/\StsC B R sts xs/\Kept B R (.slice pR nR cR) rest/\Rn B w H/\B<=H.heap.size):=⟨(U.block _ (a_i V.out.2.2.1)).trans V.out.2.2.1,a_z (S:=[]) V.out.2.2.2.1 (Only.of U) (by simp),V.out.2.2.2.2.1,HQ.out.1,aq,Nat.le_trans V.out.2.1 U.size⟩
 have ae:Hid (H.heap[w.heap.size]?=some (.cells #[.int .i64 op,.int .i64 a,.int .i64 b,.int .i64 k,.slice p n c,.slice p2 n2 c2,.bool I] 129 (0,0))/\some w.heap.size≠Value.ownBlock (.slice O N M)):=⟨ar,fun h=>by have:=(World.ownsRow.lt V.out.2.2.2.1 _ h.symm).2;omega⟩
 have az:Hid (∀ z,Value.ownBlock (.slice O N M)=some z->z < H.heap.size):=fun z aG=>Nat.lt_of_lt_of_le (World.ownsRow.lt V.out.2.2.2.1 z aG).2 U.size;have aF:Hid (∀ z∈([.int .i64 op,.int .i64 a,.int .i64 b,.int .i64 k,.slice p n c,.slice p2 n2 c2,.bool I]:List Value),z.oneCell'=true):=av.out.one;have aw:Hid (some J≠Value.ownBlock (.slice O N M)):=r_7 E.out.2.1 E.out.1 (by decide);clear U ar aq ac;refine d_R (by kernel_rfl) ?_;refine seg (fun q W=>match q with|false=>Below H.heap.size H W|true=>H.grownBy W (Value.ownBlock (.slice O N M))) (fun W W'=>W.grownBy W' (Value.ownBlock (.slice O N M))) 7 [⟨6,11,LitS 129 H.heap.size [.int .i64 op,.int .i64 a,.int .i64 b,.int .i64 k,.slice p n c,.slice p2 n2 c2,.bool I]⟩,⟨7,12,OwnG 129 7 B (N+1) (xs++[.int .i64 op,.int .i64 a,.int .i64 b,.int .i64 k,.slice p n c,.slice p2 n2 c2,.bool I])⟩] 0 10 21 rfl rfl (by kernel_rfl) (by rfl) ?_ ?_ ?_ ?_ ?_ ?_
 ·intro q W W' h hb;cases q
  ·exact a_c h hb
  ·exact g_M h hb
 ·exact ⟨rfl,rfl,rfl,Nat.le_refl _,fun _ _=>rfl⟩
 ·exact .inl ⟨_,List.mem_cons_of_mem _ List.mem_cons_self,rfl⟩
 ·intro e he v W W' h hb;simp only [List.mem_cons,List.not_mem_nil,or_false] at he;rcases he with rfl|rfl
  ·exact LitS.up h hb
  ·exact OwnG.up h hb
 ·intro e he aA v W W' h hc ht;simp only [List.mem_cons,List.not_mem_nil,or_false] at he;rcases he with rfl|rfl
  ·exact LitS.grown h ht az.out
  ·exact absurd rfl aA
 apply Exists.intro;refine ⟨fun x=>?_,?_,?_⟩
 ·simp only [List.drop_succ_cons,List.drop_zero,List.take_succ_cons,List.take_zero]
  iterate 4
   refine b_P rfl rfl ?_;apply Exists.intro;refine ⟨fun b' F hF hf K hK=>?_,?_⟩
   ·have hFc:=hF.cls
    go_big_quiet_op
    first|exact hK|(apply Exists.intro;refine ⟨fun _=>?_,?_⟩;(· fail);exact hK)
   (try simp only [Act.put,sA_,sB_,sC_])
  refine b_P rfl rfl ?_;apply Exists.intro;refine ⟨fun b' F hF hf K hK=>?_,?_⟩
  ·have hFc:=hF.cls
   have q0:∀ d,(F d).cell? ⟨J,0,none⟩=some (.slice O N M):=fun d=>by
    have hK:H.grownBy (F d) (Value.ownBlock (.slice O N M)):=by
     cases b'
     ·exact b_f _ (hFc d)
     ·exact hFc d
    exact (e_n ((hK.block _ (a_i E.out.1) aw.out).trans E.out.1)).1.1
   clear hFc
   go_big_quiet_op
   first|exact hK|(apply Exists.intro;refine ⟨fun _=>?_,?_⟩;(· fail);exact hK)
  (try simp only [Act.put,sA_,sB_,sC_])
  refine b_P rfl rfl ?_;apply Exists.intro;refine ⟨fun b' F hF hf K hK=>?_,?_⟩
  ·have hFc:=hF.cls
   have q0:∀ d,(F d).heap[w.heap.size]?=some (.cells #[.int .i64 op,.int .i64 a,.int .i64 b,.int .i64 k,.slice p n c,.slice p2 n2 c2,.bool I] 129 (0,0)):=fun d=>by
    have hK:H.grownBy (F d) (Value.ownBlock (.slice O N M)):=by
     cases b'
     ·exact b_f _ (hFc d)
     ·exact hFc d
    exact (hK.block _ (a_i ae.out.1) ae.out.2).trans ae.out.1
   have q1:=fun d=>(i_W (q0 d)).1;have q2:=fun d=>(i_W (q0 d)).2.1;have q3:=fun d=>(i_W (q0 d)).2.2.1;have q4:=fun d=>(i_W (q0 d)).2.2.2.1;have q5:=fun d=>(i_W (q0 d)).2.2.2.2.1;have q6:=fun d=>(i_W (q0 d)).2.2.2.2.2.1;have q7:=fun d=>(i_W (q0 d)).2.2.2.2.2.2;clear hFc q0
   go_big_quiet_op
   first|exact hK|(apply Exists.intro;refine ⟨fun _=>?_,?_⟩;(· fail);exact hK)
  (try simp only [Act.put,sA_,sB_,sC_])
  refine i_I rfl (by decide) rfl ?_ ?_
  ·intro b' F hF hf d;have hFc:=hF.cls
   have ay:H.heap.size<=(F d).heap.size:=by
    cases b'
    ·exact (hFc d).size
    ·exact (hFc d).size
   simp [a_j,a_f,go_sem];exact ⟨⟨(F d).heap.size,rfl,heap_alloc_new (F d) _,ay⟩,a_b _ _⟩
  (try simp only [Act.put,sA_,sB_,sC_])
  refine i_J rfl rfl rfl ?_ ?_
  ·intro W hW hf;have h7:=hf _ List.mem_cons_self (by rfl) W;obtain ⟨g7,e7,aE,_⟩:=h7;simp only [] at e7;obtain ⟨g8,c8,w8,aB,aD,ab⟩:=r_6 t_M (by decide) (by decide) 95 W B (.slice O N M) N xs (a_z (S:=[]) E.out.2.1 (Only.of hW) (by simp)) g7 _ aE rfl aF.out (by omega) (Nat.le_trans E.out.2.2.2.2.2 (Below.size hW));simp [d_f,c_A,execOp,resolve,invoke,builtin,Act.eval,e7,aB,Result.andThen];exact ⟨⟨g8,c8,rfl,aD⟩,d_Q (b_f _ hW) ab,ab⟩
  iterate 2
   (try simp only [Act.put,sA_,sB_,sC_])
   refine b_P rfl rfl ?_;apply Exists.intro;refine ⟨fun b' F hF hf K hK=>?_,?_⟩
   ·have hFc:=hF.cls
    go_big_quiet_op
    first|exact hK|(apply Exists.intro;refine ⟨fun _=>?_,?_⟩;(· fail);exact hK)
  (try simp only [Act.put,sA_,sB_,sC_])
  refine m_v ?_;exact rfl
 ·exact fun x=>rfl
 ·intro w8 ai aj ak;refine f_G 10 (by kernel_rfl) ?_;simp only [List.drop_succ_cons,List.drop_zero];have h8:=ak _ (List.mem_cons_of_mem _ List.mem_cons_self);obtain ⟨x6,e6⟩:∃ z,ai 6=z:=⟨_,rfl⟩
  obtain ⟨x7,e7⟩:∃ z,ai 7=z:=⟨_,rfl⟩
  simp only [e7] at h8;simp only [e6,e7];obtain ⟨g8,c8,rfl,h8⟩:=h8;have L:H.grownBy w8 (Value.ownBlock (.slice O N M)):=aj;have ao:Only S2 H w8:=(g_r E.out.2.1 L).more (by simp);have ah:Rn B H w8:=⟨Below.grown (Below.refl _ _) L E.out.2.2.2.2.2 fun z hz=>(World.ownsRow.lt E.out.2.1 z hz).1,ao⟩
  have aa:=(L.block _ (a_i E.out.1) aw.out).trans E.out.1;have ad:Rn B H (w8.setCell ⟨J,0,none⟩ (.slice (some ⟨g8,0,none⟩) (N+1) c8)):=ah.trans ⟨(Below.refl _ _).setCell (p:=⟨J,0,none⟩) V.out.1 _,Only.set aa (by simp)⟩;obtain ⟨⟨r0,r1⟩,_⟩:=e_n aa
  have af:(w8.setCell ⟨J,0,none⟩ (.slice (some ⟨g8,0,none⟩) (N+1) c8)).heap[J]?=some (.cells #[.slice (some ⟨g8,0,none⟩) (N+1) c8,.slice pR nR cR] 126 (0,0)):=by
   rw [a_n aa];rfl
  have z0:=(e_n af).1.1
  have HF:Hid (PlanO B R (w8.setCell ⟨J,0,none⟩ (.slice (some ⟨g8,0,none⟩) (N+1) c8)) J (sts++[⟨op,a,b,k,D,X,I⟩]) rest/\Rn B w (w8.setCell ⟨J,0,none⟩ (.slice (some ⟨g8,0,none⟩) (N+1) c8))):=by
   refine ⟨⟨V.out.1,aH.out.trans (E.out.2.2.2.2.1.trans ad),_,_,_,_,_,_,_,af,?_,by rw [List.length_append,V.out.2.2.2.2.2];rfl,E.out.2.2.1.push av.out,E.out.2.2.2.1,HQ.out.2⟩,E.out.2.2.2.2.1.trans ad⟩;rw [List.length_append,V.out.2.2.2.2.2];exact a_z (S:=[126]) h8 (Only.set aa (by simp)) (by decide)
  have aC:((N+1:Nat):Int) - 1=(N:Int):=by omega
  have aI:wrap64 (N:Int)=(N:Int):=by unfold wrap64;omega
  clear aj L ao ah ad aa af h8 ak e6 e7;go_wp2;exact bodyPost_ret (v:=.int .i64 (N:Int)) (by simp [results,Tryz.results59,go_sem,aC,aI]) rfl ⟨rfl,HF.out⟩
end Go.Proofs.YtjlofobnmjompaaGreatDoor.Wd
namespace Go.Proofs.YtjlofobnmjompaaGreatDoor.Wd
open Go.RowKit Fx
/-- An order of one's own. -/
def RowO (B:Nat) (o:List Int) (v:Value) (W:World):Prop:=∃ p n c,v = .slice p n c/\OwnK .i64 3 W B (.slice p n c) o
theorem RowO.up {B:Nat} {o:List Int} {v:Value} {W W':World} (h:RowO B o v W) (D:Below W.heap.size W W'):RowO B o v W':=by
 obtain ⟨p,n,c,e,E⟩:=h;exact ⟨p,n,c,e,E.up D⟩
theorem q_Q (p p2:Option Addr) (n c n2 c2:Nat) (d x:List Int) (I:Int) (hr:InR I) (hd:RI d) (hx:RI x) (bg:n<=10) (w:World) (h1:Nums .i64 w (.slice p n c) d) (h2:Nums .i64 w (.slice p2 n2 c2) x):
  Calls Tryz.prog 122 #[.agg #[.slice p n c,.slice p2 n2 c2],.int .i64 I] w fun e w'=>∃ v',e = .returned (.tuple #[v',.int .i64 (smE d x I)])/\TRes w' w.heap.size v' (smD d x I) (smV d x I)/\Below w.heap.size w w':=by
 obtain ⟨_,_,_,e4,HD⟩:=h1.lst;cases e4;obtain ⟨_,_,_,e4,HX⟩:=h2.lst;cases e4;have aW:d.length=n:=HD.out.1;obtain ⟨O,eO⟩:∃ O,c_p n I=O:=⟨_,rfl⟩
 have rO:RI O:=fun y hy=>by
  rw [<- eO] at hy;unfold c_p i_x at hy;rcases List.mem_append.1 hy with h|h
  ·obtain ⟨k,hk,rfl⟩:=List.mem_map.1 (List.mem_filter.1 h).1;have:=List.mem_range.1 hk;omega
  ·simp at h;rw [h];exact hr
 obtain ⟨E,eE⟩:∃ E,h_O d x O=E:=⟨_,rfl⟩
 obtain ⟨DD,av⟩:∃ E,g_X d x O=E:=⟨_,rfl⟩
 obtain ⟨VV,aF⟩:∃ E,e_M d x O=E:=⟨_,rfl⟩
 have cL:Hid (∀ B W,B<=W.heap.size->Calls Tryz.prog 151 #[.int .i64 (n:Int),.int .i64 I] W fun e w'=>∃ u,e = .returned u/\RowO B O u w'/\Below W.heap.size W w'):=fun B W hB=>by
  rw [<- eO];refine (h_R n (by omega) I hr W).mono ?_;rintro e w' ⟨u,rfl,h,hb⟩;obtain ⟨q,m,k,rfl,_⟩:=h.nums.lst;exact ⟨_,rfl,⟨_,_,_,rfl,h.low hB⟩,hb⟩
 have cT:Hid (∀ B W B' v,B<=W.heap.size->Below w.heap.size w W->RowO B' O v W->Calls Tryz.prog 135 #[.agg #[.slice p n c,.slice p2 n2 c2],v] W fun e w'=>∃ u,e = .returned u/\TupP B DD VV E u w'/\Below W.heap.size W w'):=fun B W B' v hB hW hv=>by
  obtain ⟨q,m,k,rfl,h⟩:=hv;rw [<- eE,<- av,<- aF];refine (l_0 p p2 q n c n2 c2 m k d x O hd rO W (h1.up hW) (h2.up hW) h.nums).mono ?_;rintro e w' ⟨u,rfl,h,hb⟩;exact ⟨_,rfl,⟨u,rfl,(h.low hB).own⟩,hb⟩
 have HE:Hid (c_p n I=O/\h_O d x O=E/\g_X d x O=DD/\e_M d x O=VV/\d.length=n/\RI x/\InR I):=⟨eO,eE,av,aF,aW,hx,hr⟩
 have HN:Hid (Nums .i64 w (.slice p n c) d/\Nums .i64 w (.slice p2 n2 c2) x):=⟨h1,h2⟩
 have a8:(n:Int)<=10:=by omega
 have bn:-9223372036854775808<=I/\I<=9223372036854775807:=hr;obtain ⟨sE,aI⟩:∃ e,smE d x I=e:=⟨_,rfl⟩
 obtain ⟨sD,aG⟩:∃ e,smD d x I=e:=⟨_,rfl⟩
 obtain ⟨sV,ar⟩:∃ e,smV d x I=e:=⟨_,rfl⟩
 rw [aI,aG,ar];have HM:Hid (smE d x I=sE/\smD d x I=sD/\smV d x I=sV):=⟨aI,aG,ar⟩
 haveI:Nonempty World:=⟨w⟩
 clear aI aG ar eO eE av aF rO hd hx h1 h2 aW hr;go_enter Tryz.func122,Tryz.ntmps122;go_wp2_with fail
 refine a_Q (fun V ap=>?_);have B0:Below w.heap.size w V:=by rw [ap];go_grown
 have XA:Hid (Cel V w.heap.size (.slice p n c) (.slice p2 n2 c2)):=by show Cel _ _ _ _;unfold Cel;rw [ap];simp [go_sem]
 have XR:Hid (Cel V (w.heap.size+1) (.slice none 0 0) (.slice none 0 0)):=by show Cel _ _ _ _;unfold Cel;rw [ap];simp [go_sem]
 have aM:Hid (Below w.heap.size w V):=B0;clear ap B0;obtain ⟨a0,a1,_,_⟩:=XA.out;have a9:=a_a a0;refine l_A [⟨5,17,RowO V.heap.size O⟩,⟨6,18,TupP V.heap.size DD VV E⟩,⟨7,11,TupP V.heap.size DD VV E⟩,⟨8,19,OwnT V.heap.size DD VV⟩,⟨10,6,NewC V.heap.size⟩] 11 66 (by kernel_rfl) rfl rfl 9 _ rfl (by decide) rfl (by kernel_rfl) (by kernel_rfl) (fun _ _ _ _ h=>h) (by rfl) ?_ ?_
 ·intro e he v W W' h hb;simp only [List.mem_cons,List.not_mem_nil,or_false] at he;rcases he with rfl|rfl|rfl|rfl|rfl
  ·exact RowO.up h hb
  ·exact TupP.up h hb
  ·exact TupP.up h hb
  ·exact OwnT.up h hb
  ·exact NewC.up h hb
 apply Exists.intro;refine ⟨?yl1,?wk1,?pk1,?rest1⟩
 case wk1=>
  intro x;simp only [List.take_succ_cons,List.take_zero]
  iterate 5
   refine a_l rfl rfl ?_;apply Exists.intro;refine ⟨fun F hF hf K hK=>?_,?_⟩
   ·have hFc:=hF.cell;have hFf:=hF.frozen
    go_big_quiet_op
    exact hK
   (try simp only [c_I])
  refine a_o rfl rfl ?_ ?_
  ·intro F hF hf d;have hFc:=hF.cell;have hFf:=hF.frozen;simp [a_j,a_f,go_sem];refine (cL.out V.heap.size (F d) (hF.below d).size).mono ?_;rintro e' w8 ⟨v8,rfl,h8,aA⟩;exact ⟨_,rfl,h8,aA⟩
  (try simp only [c_I])
  refine a_o rfl rfl ?_ ?_
  ·intro F hF hf d;have hFc:=hF.cell;have hFf:=hF.frozen;have h9:=hf _ List.mem_cons_self (by rfl) d;simp [a_j,a_f,go_sem];refine (cT.out V.heap.size (F d) _ _ (hF.below d).size (a_c aM.out (hF.below d)) h9).mono ?_;rintro e' w8 ⟨v8,rfl,h8,aA⟩;exact ⟨_,rfl,h8,aA⟩
  (try simp only [c_I])
  refine a_o rfl rfl ?_ ?_
  ·intro F hF hf d;have hFc:=hF.cell;have hFf:=hF.frozen;have h9:=hf _ (List.mem_cons_of_mem _ List.mem_cons_self) (by rfl) d;simp [a_j,a_f,go_sem];exact ⟨h9,Below.refl _ _⟩
  (try simp only [c_I])
  refine a_o rfl rfl ?_ ?_
  ·intro F hF hf d;have hFc:=hF.cell;have hFf:=hF.frozen;have h9:=hf _ (List.mem_cons_of_mem _ (List.mem_cons_of_mem _ List.mem_cons_self)) (by rfl) d;obtain ⟨u9,e9,o9⟩:=h9;simp only [] at e9;simp [a_j,a_f,go_sem,e9];exact ⟨o9,Below.refl _ _⟩
  (try simp only [c_I])
  refine a_l rfl rfl ?_;apply Exists.intro;refine ⟨fun F hF hf K hK=>?_,?_⟩
  ·have hFc:=hF.cell;have hFf:=hF.frozen;have h9:=hf _ (List.mem_cons_of_mem _ (List.mem_cons_of_mem _ List.mem_cons_self)) (by rfl);obtain ⟨u9,e9,_⟩:=h9 w;simp only [] at e9
   go_big_quiet_op
   exact hK
  (try simp only [c_I])
  refine a_o rfl rfl ?_ ?_
  ·intro F hF hf d;have hFc:=hF.cell;have hFf:=hF.frozen;simp [a_j,a_f,go_sem];exact ⟨⟨(F d).heap.size,rfl,by show ((F d).heap.push _)[(F d).heap.size]?=_;simp,(hF.below d).size⟩,a_b _ _⟩
  (try simp only [c_I])
  refine b_a ?_;exact rfl
 case pk1=>
  intro x;simp only [b_k,List.foldl_cons,List.foldl_nil,Act.put,sA_,sB_,sC_]
 case yl1=>
  intro x hx;obtain ⟨W9,u9,e9,_⟩:=hx _ (List.mem_cons_of_mem _ (List.mem_cons_of_mem _ List.mem_cons_self)) (by rfl);simp only [] at e9;refine ⟨.int .i64 E,fun t ht=>?_,.inl ⟨by rfl,fun w=>?_⟩⟩
  ·cases ht;rfl
  ·simp [execOp,Act.eval,e9,go_sem]
 intro z1 xs aq hf;simp only [List.drop_succ_cons,List.drop_zero];have bc:=hf _ (List.mem_cons_of_mem _ (List.mem_cons_of_mem _ (List.mem_cons_of_mem _ List.mem_cons_self)));have hN:=hf _ (List.mem_cons_of_mem _ (List.mem_cons_of_mem _ (List.mem_cons_of_mem _ (List.mem_cons_of_mem _ List.mem_cons_self))));obtain ⟨R,L,D,U,M,J,ev,o1,o2⟩:=bc;obtain ⟨g6,eb,ai,aw⟩:=hN;simp only [] at ev eb;obtain ⟨x5,e5⟩:∃ q,xs 5=q:=⟨_,rfl⟩
 obtain ⟨x6,e6⟩:∃ q,xs 6=q:=⟨_,rfl⟩
 obtain ⟨x7,e7⟩:∃ q,xs 7=q:=⟨_,rfl⟩
 simp only [ev,eb,e5,e6,e7];have bd:=c_o ai;have f1:=o1.off_type ai (by decide);have f2:=o2.off_type ai (by decide);have hS:Below V.heap.size V (set2 z1 g6 (.slice R L D) (.slice U M J)):=a_8 aq g6 aw _ _;have HO:Hid (OwnK .i64 3 (set2 z1 g6 (.slice R L D) (.slice U M J)) V.heap.size (.slice R L D) DD/\OwnK .i64 23 (set2 z1 g6 (.slice R L D) (.slice U M J)) V.heap.size (.slice U M J) VV/\V.heap.size<=g6):=⟨o1.stay (Stay.set2 _ _ _) f1,o2.stay (Stay.set2 _ _ _) f2,aw⟩
 have ao:Hid (Cel (set2 z1 g6 (.slice R L D) (.slice U M J)) g6 (.slice R L D) (.slice U M J)):=(c_o ai).set _ _;have ab:Hid (Below w.heap.size w (set2 z1 g6 (.slice R L D) (.slice U M J))/\Below V.heap.size V (set2 z1 g6 (.slice R L D) (.slice U M J))):=⟨a_c aM.out hS,hS⟩
 obtain ⟨c0,c1,bb,a3⟩:=bd;have cz:=a_a c0;clear hf e5 e6 e7 ev eb f1 f2 o1 o2 cL cT a0 a1 a9 hS aw aq ai;by_cases hs:smP d x I
 ·obtain ⟨hp,ay,aH⟩:=hs;obtain ⟨a,ga,rfl⟩:=b_m hp.1;obtain ⟨s,rfl⟩:=Int.eq_ofNat_of_zero_le ay;rw [a_v] at aH;have ac:s < a.length:=by omega
  have az:x.length=a_e a:=by have:=hp.2;rw [a_p] at this;exact this
  have au:a.length=n:=by have:=HE.out.2.2.2.2.1;rw [a_v] at this;exact this
  obtain ⟨k1,k2,k3,k4⟩:=q_f ga az s ac;rw [au,HE.out.1] at k1 k2 k3 k4;have hE:E=0:=by rw [<- HE.out.2.1];exact k1
  rw [HE.out.2.2.1] at k2;rw [HE.out.2.2.2.1] at k3 k4;subst hE k2;have am:smP (itl a) x (s:Int):=⟨hp,ay,by rw [a_v];exact aH⟩
  have aD:sE=0:=by rw [<- HM.out.1];exact if_pos am
  have aE:sD=itl (b_l a s):=by rw [<- HM.out.2.1];unfold smD;rw [if_pos am,a_p];rfl
  have aj:sV=o_9 a s x:=by rw [<- HM.out.2.2];unfold smV;rw [if_pos am,a_p];rfl
  subst aD aE;obtain ⟨C,eC⟩:∃ C,a.getD s 0=C:=⟨_,rfl⟩
  obtain ⟨N,eN⟩:∃ N,a_e (b_l a s)=N:=⟨_,rfl⟩
  have ah:N*C=a_e a:=by rw [<- eN,<- eC];exact d_x a s ac
  have ba:1<=C:=by rw [<- eC];exact j_H ga s ac
  have aP:1<=N:=by rw [<- eN];exact (d_a ga s ac).pos
  have bf:N<=4096:=by rw [<- eN];exact (d_a ga s ac).2.2
  have a5:C<=4096:=by have:=Nat.mul_le_mul_right C aP;rw [ah,Nat.one_mul] at this;have:=ga.2.2;omega
  have aL:n2=N*C:=by rw [ah,<- az];exact HX.out.1.symm
  have hQ:(n2:Int) / (C:Int)=(N:Int):=by
   rw [aL]
   push_cast
   exact Int.mul_ediv_cancel _ (by omega)
  rw [eC,eN] at k4;rw [eC] at HO
  have HS:Hid (sV=o_9 a s x/\sV.length=N/\VV.length=N*C/\(∀ i k,i < N->k < C->VV.getD (i*C+k) 0=x.getD ((i / a_e (a.drop (s+1))*C+k)*a_e (a.drop (s+1))+i % a_e (a.drop (s+1))) 0)/\a.getD s 0=C/\a_e (b_l a s)=N/\RI VV/\a.length=n/\s < a.length/\N*C<=4096):=by
   refine ⟨aj,by rw [aj,n_5,eN],by rw [k3,ah],k4,eC,eN,fun y hy=>?_,au,ac,by rw [ah];exact ga.2.2⟩;rw [<- HE.out.2.2.2.1] at hy;unfold e_M at hy
   split at hy
   ·obtain ⟨i,_,rfl⟩:=List.mem_map.1 hy;exact b_H HE.out.2.2.2.2.2.1 _
   ·cases hy
  obtain ⟨q,o,rfl,aO⟩:=HD.out.2 s (by omega);rw [a_P,eC] at aO;have br:(s:Int) < (n:Int):=by omega
  have bp:1<=(C:Int)/\(C:Int)<=4096:=by omega
  have bo:1<=(N:Int)/\(N:Int)<=4096:=by omega
  have bh:(n2:Int)<=4096:=by have:=HS.out.2.2.2.2.2.2.2.2.2;omega
  have bi:1<=(n:Int):=by omega
  obtain ⟨n',aV⟩:∃ n',n=n'+1:=⟨n - 1,by omega⟩
  have en:(n:Int) - 1=(n':Int):=by omega
  have Hn:Hid (n=n'+1):=aV;clear hp ay aH az au k1 k3 k4 am aj eC eN ah ba a5 aP bf aL ac ga aV;obtain ⟨Wz,aX⟩:∃ Wz,(set2 z1 g6 (.slice R L D) (.slice U M J))=Wz:=⟨_,rfl⟩
  rw [aX] at HO ab ao;obtain ⟨q0,q1,_,_⟩:=ao.out;obtain ⟨a0,a1,_,_⟩:=XA.out.up ab.out.2;have q9:=a_a q0;have a9:=a_a a0;have ua:=a_d aO ab.out.1;have aZ:=a_a ua;go_wp2_with (at_make;refine a_y k_w (by decide) _ rfl (.tmp 34) (.tmp 34) rfl .i64 .i64 N N N rfl rfl rfl rfl (by omega) Wz.heap.size Wz (Nat.le_refl _) (Below.refl _ _) ?_;intro w4 aK B4 aY;clear aY)
  clear q0 q1 a0 a1 q9 a9 ua aZ aX c0 c1 bb a3 cz;obtain ⟨g,hg⟩:∃ g,Wz.heap.size=g:=⟨_,rfl⟩
  rw [hg] at aK ⊢;have af:Hid (Below w.heap.size w w4/\Below V.heap.size V w4/\Below Wz.heap.size Wz w4):=⟨a_c ab.out.1 B4,a_c ab.out.2 B4,B4⟩
  have Hg:Hid (Wz.heap.size=g/\g6 < g/\V.heap.size<=g/\w.heap.size+1 < V.heap.size):=⟨hg,by rw [<- hg];exact a_a ao.out.1,by rw [<- hg];exact ab.out.2.size,a_a XR.out.1⟩
  have a6:Hid (OwnK .i64 23 w4 g (.slice (some ⟨g,0,none⟩) N N) (b_I sV 0)):=by
   show OwnK _ _ _ _ _ _;rw [a_1,HS.out.2.1];exact aK.out
  clear aK B4 hg
  go_loopg [38] N (fun gg i wr=>∃ (k:Nat),k<=N/\gg=N - k/\i = .int .i64 (k:Int)/\Hid (OwnK .i64 23 wr g (.slice (some ⟨g,0,none⟩) N N) (b_I sV k))/\Hid (Below w.heap.size w wr/\Stay g w4 wr))
  case atStart=>exact ⟨0,by omega,by omega,by first|rfl|simp,a6,af.out.1,Stay.refl _ _⟩
  case round=>
   obtain ⟨k,hk,bl,rfl,aJ,aa⟩:=hrel;obtain ⟨R1,a4⟩:∃ R1:World,R1=wr:=⟨_,rfl⟩
   subst a4;have xA:Cel R1 w.heap.size (.slice (some ⟨q,o,none⟩) n c) (.slice p2 n2 c2):=(XA.out.up af.out.2.1).stay aa.out.2 (by have:=Hg.out;omega);have xR:Cel R1 (w.heap.size+1) (.slice none 0 0) (.slice none 0 0):=(XR.out.up af.out.2.1).stay aa.out.2 (by have:=Hg.out;omega);have x6:Cel R1 g6 (.slice R L D) (.slice U M J):=(ao.out.up af.out.2.2).stay aa.out.2 (by have:=Hg.out;omega);have o7:OwnK .i64 23 R1 V.heap.size (.slice U M J) VV:=(HO.out.2.1.up af.out.2.2).stay aa.out.2 (HO.out.2.1.off_new (by have:=Hg.out;omega));have o6:OwnK .i64 3 R1 V.heap.size (.slice R L D) (itl (b_l a s++[C])):=(HO.out.1.up af.out.2.2).stay aa.out.2 (HO.out.1.off_new (by have:=Hg.out;omega));by_cases ag:k < N
   ·have bm:(k:Int) < (N:Int):=by omega
    obtain ⟨Z,eZ⟩:=r_D U k C J;obtain ⟨C1,aU⟩:∃ C1,J - k*C=C1:=⟨_,rfl⟩
    rw [aU] at eZ
    have nV:∀ W,Below R1.heap.size R1 W->Nums .i64 W (.slice Z C C1) ((List.range C).map fun j=>VV.getD (k*C+j) 0):=fun W hW=>by
     have:=o_a N C k HS.out.2.2.1 ag o7.cap (o7.up hW).nums;rw [eZ] at this;exact this
    have rV:RI ((List.range C).map fun j=>VV.getD (k*C+j) 0):=fun y hy=>by
     obtain ⟨i,_,rfl⟩:=List.mem_map.1 hy;exact b_H HS.out.2.2.2.2.2.2.1 _
    have wT:=g_W rV (by rw [List.length_map,List.length_range];omega)
    have eT:hold (b_v ((List.range C).map fun j=>VV.getD (k*C+j) 0))=sV.getD k 0:=by
     rw [HS.out.1,p_5 a s x k (by rw [HS.out.2.2.2.2.2.1];exact ag),HS.out.2.2.2.2.1];unfold s_A b_v;rw [List.length_map,List.length_range]
     congr 1
     refine b_b C fun j hj=>?_;rw [a_I _ _ _ _ hj,HS.out.2.2.2.1 k j ag hj]
    have aC:Hid (∀ W,Below R1.heap.size R1 W->Calls Tryz.prog 153 #[.slice Z C C1] W fun e w'=>e = .returned (wd (b_v ((List.range C).map fun j=>VV.getD (k*C+j) 0)))/\Below W.heap.size W w'):=fun W hW=>f_w Z C C1 _ rV (by omega) W (nV W hW);have ak:∀ W,Calls Tryz.prog 152 #[wd (b_v ((List.range C).map fun j=>VV.getD (k*C+j) 0))] W fun e w'=>e = .returned (.int .i64 (hold (b_v ((List.range C).map fun j=>VV.getD (k*C+j) 0))))/\Below W.heap.size W w':=fun W=>e_v _ wT W;rw [eT] at ak;obtain ⟨th,tl,et,t1,t2,t3,t4,Ht⟩:=words wT;rw [et] at aC ak;obtain ⟨Y,eY⟩:∃ Y,sV.getD k 0=Y:=⟨_,rfl⟩
    rw [eY] at ak;have HY:Hid (sV.getD k 0=Y):=eY;have aS:k*C+C<=N*C:=by have:=Nat.mul_le_mul_right C (show k+1<=N by omega);rw [Nat.add_mul,Nat.one_mul] at this;exact this
    obtain ⟨A,eA⟩:∃ A,k*C=A:=⟨_,rfl⟩
    obtain ⟨B,eB⟩:∃ B,(k+1)*C=B:=⟨_,rfl⟩
    have bk:(k:Int)*(C:Int)=(A:Int):=by rw [<- eA];push_cast;rfl
    have bt:((k:Int)+1)*(C:Int)=(B:Int):=by rw [<- eB];push_cast;rfl
    have bv:A+C=B:=by rw [<- eA,<- eB,Nat.add_mul,Nat.one_mul]
    have aN:=o7.cap;have ad:VV.length=M:=by obtain ⟨_,_,_,e4,H⟩:=o7.nums.lst;cases e4;exact H.out.1
    have a7:B<=4096/\B<=M:=by
     have h1:=HS.out.2.2.2.2.2.2.2.2.2;have h2:=HS.out.2.2.1;rw [eA] at aS;omega
    rw [eA,eB] at eZ;have kc:=fun W=>l_Q U M J A B (by omega) (by omega) W;rw [eZ] at kc;have bj:(B:Int)<=4096/\0<=(A:Int)/\(A:Int)<=4096:=by omega
    obtain ⟨s0,s1,_,_⟩:=x6;have s9:=a_a s0;have bq:=aJ;clear eT et wT rV nV eZ aU eY aS eA eB aN ad a7 o7 o6 xA xR;go_wp2_with fail
    refine (aC.out R1 (Below.refl _ _)).mono ?_;rintro e w6 ⟨rfl,aR⟩;have be:Hid (Below R1.heap.size R1 w6):=aR;clear aR aC;go_wp2_with fail
    refine (ak w6).mono ?_;rintro e w7 ⟨rfl,aQ⟩;have an:Below R1.heap.size R1 w7:=a_c be.out aQ;have ax:=aJ.out.up an;obtain ⟨aT,bs⟩:=ax.cell (by rw [a_A];exact HS.out.2.1) k ag;have bu:=a_a aT
    have H5:Hid (OwnK .i64 23 (w7.setCell ⟨g,k,none⟩ (.int .i64 Y)) g (.slice (some ⟨g,0,none⟩) N N) (b_I sV (k+1))):=by
     have:=ax.store (by rw [a_A];exact HS.out.2.1) k Y;rw [<- HY.out,b_r sV k (by rw [HS.out.2.1];exact ag)] at this;rw [<- HY.out];exact this
    have a2:w.heap.size<=g:=by have:=Hg.out;omega
    have H6:Hid (Below w.heap.size w (w7.setCell ⟨g,k,none⟩ (.int .i64 Y))/\Stay g w4 (w7.setCell ⟨g,k,none⟩ (.int .i64 Y))):=⟨(a_c aa.out.1 an).setCell (p:=⟨g,k,none⟩) a2 _,(aa.out.2.up an).set _ _⟩
    clear aQ an ax ak s0 s1 s9;go_wp2;go_roundg (N - (k+1))
    case measure=>omega
    case rel=>exact ⟨k+1,by omega,rfl,by first|rfl|simp,H5,H6⟩
   ·obtain rfl:k=N:=by omega
    have ae:=aJ.out;rw [<- HS.out.2.1,b_g,HS.out.2.1] at ae;have ad:(itl (b_l a s++[C])).length=L:=by obtain ⟨_,_,_,e4,H⟩:=o6.nums.lst;cases e4;exact H.out.1
    have aB:(b_l a s).length=n':=by
     have h1:=HS.out.2.2.2.2.2.2.2.1;have h2:=HS.out.2.2.2.2.2.2.2.2.1;have h3:=Hn.out;simp only [b_l,List.length_append,List.length_take,List.length_drop];omega
    rw [a_v,List.length_append,List.length_singleton,aB] at ad;obtain ⟨Z,eZ⟩:=d_b R 0 n' D;have kc:=fun W=>r_w R L D n' (by have:=o6.cap;omega) W;rw [eZ] at kc;rw [Nat.sub_zero,Nat.sub_zero] at kc
    have oD:OwnK .i64 3 R1 V.heap.size (.slice Z n' D) (itl (b_l a s)):=by
     have:=o6.cut n' (show n'<=L by omega);rw [eZ,Nat.sub_zero,Nat.sub_zero] at this
     have e:(itl (b_l a s++[C])).take n'=itl (b_l a s):=by
      unfold itl;rw [List.map_append,List.take_left' (by rw [List.length_map];exact aB)]
     rw [e] at this;exact this
    have HF:Hid (TRes (set2 R1 (w.heap.size+1) (.slice Z n' D) (.slice (some ⟨g,0,none⟩) k k)) w.heap.size (.agg #[.slice Z n' D,.slice (some ⟨g,0,none⟩) k k]) (itl (b_l a s)) sV/\Below w.heap.size w (set2 R1 (w.heap.size+1) (.slice Z n' D) (.slice (some ⟨g,0,none⟩) k k))):=
     ⟨⟨_,_,rfl,(oD.stay (Stay.set2 _ _ _) (oD.off (by have:=Hg.out;omega))).low (by have:=Hg.out;omega),(ae.stay (Stay.set2 _ _ _) (ae.off (by have:=Hg.out;omega))).low (by have:=Hg.out;omega)⟩,a_k aa.out.1 _ (by omega) _ _⟩
    have cf:=xR.set (.slice Z n' D) (.slice (some ⟨g,0,none⟩) k k);obtain ⟨a0,a1,_,_⟩:=xA;obtain ⟨s0,s1,_,_⟩:=x6;obtain ⟨r0,r1,r2,r3⟩:=xR;obtain ⟨y0,y1,_,_⟩:=cf;have a9:=a_a a0;have s9:=a_a s0;clear ae o6 o7 oD eZ ad aB;go_wp2;exact bodyPost_ret (v:=.tuple #[.agg #[.slice Z n' D,.slice (some ⟨g,0,none⟩) k k],.int .i64 0]) (by simp [results,Tryz.results122,go_sem,y0,y1]) rfl ⟨_,rfl,HF.out⟩
 ·obtain ⟨k1,k2,k3,k4,k5,k6⟩:=q_e hs;rw [HE.out.2.2.2.2.1,HE.out.1] at k4 k5 k6;have hE:E=1:=by rw [<- HE.out.2.1];exact k4
  have aD:sE=1:=by rw [<- HM.out.1];exact k1
  have aE:sD = []:=by rw [<- HM.out.2.1];exact k2
  have aj:sV = []:=by rw [<- HM.out.2.2];exact k3
  subst hE aD aE aj;clear k1 k2 k3 k4 k5 k6 hs;have xr:=XR.out.up ab.out.2;have BF:=a_k ab.out.1 (w.heap.size+1) (by omega) (.slice none 0 0) (.slice none 0 0);have cf:=xr.set (.slice none 0 0) (.slice none 0 0);obtain ⟨r0,r1,r2,r3⟩:=xr;obtain ⟨y0,y1,_,_⟩:=cf;go_wp2;exact bodyPost_ret (v:=.tuple #[.agg #[.slice none 0 0,.slice none 0 0],.int .i64 1]) (by simp [results,Tryz.results122,go_sem,y0,y1]) rfl ⟨_,rfl,TRes.none _ _,BF⟩
end Go.Proofs.YtjlofobnmjompaaGreatDoor.Wd
