/- Texts of nets: words, numbers, what chap -/
import Derived.Lib.FieldsP
import Derived.Lib.Join
import Derived.Test.YtcpbhhlepdgdkaaGreatDoorT19
set_option linter.unusedVariables false
set_option linter.unusedSimpArgs false
set_option maxHeartbeats 16000000
set_option maxRecDepth 16000
namespace Go.Proofs.YtcpbhhlepdgdkaaGreatDoor.Wd
end Go.Proofs.YtcpbhhlepdgdkaaGreatDoor.Wd
namespace Go.Proofs.YtcpbhhlepdgdkaaGreatDoor.Wd
open Go.RowKit
theorem t_s {W:World} {b:Nat} {E H D:Value} {e:TypeId} (h:W.heap[b]?=some (.cells #[E,H,D] e (0,0))):(W.cell? ⟨b,0,none⟩=some E/\W.frozen? ⟨b,0,none⟩=false)/\(W.cell? ⟨b,1,none⟩=some H/\W.frozen? ⟨b,1,none⟩=false)/\(W.cell? ⟨b,2,none⟩=some D/\W.frozen? ⟨b,2,none⟩=false):=by
 simp [World.cell?,World.frozen?,h]
end Go.Proofs.YtcpbhhlepdgdkaaGreatDoor.Wd
namespace Go.Proofs
end Go.Proofs
namespace Go.Proofs.YtcpbhhlepdgdkaaGreatDoor.Wd
open Go.RowKit
def lyC (l:Ly):List Value:=[.string l.1,.int .i64 l.2.1,.int .i64 l.2.2]
theorem s_k (ls:List Ly) (i k:Nat) (D:i < ls.length) (E:k < 3):(ls.flatMap lyC)[i*3+k]?=(lyC (lyA ls i))[k]?:=by
 induction ls generalizing i with
 | nil=>simp at D
 | cons l ls ih=>
  rw [List.flatMap_cons];cases i with
  | zero=>
   rw [Nat.zero_mul,Nat.zero_add,List.getElem?_append_left (by show k < 3;exact E)];rfl
  | succ i=>
   rw [List.getElem?_append_right (by show 3<=_;omega),show (i+1)*3+k - (lyC l).length=i*3+k by show (i+1)*3+k - 3=_;omega,ih i (by simpa using D)];rfl
/-- append of one element that a literal holds, as a run. -/
theorem s_l {P:Program} {t e:TypeId} {s b:Nat} (T:GT P t e s b) (hb:b<=256) (O:0 < s) (U:TypeId) (W:World) (B:Nat) (v:Value) (n:Nat) (R:List Value) (ho:W.ownsRow B e s v n R) (g:Nat) (u:List Value) (hg:W.heap[g]?=some (.cells u.toArray e (0,0))) (hu:u.length=s) (h1:∀ x∈u,x.oneCell'=true) (hn:n+1<=1073741825) (hB:B<=W.heap.size):
  ∃ L D J,(Builtin.append_ #[t,t] U #[v,.slice (some ⟨g,0,none⟩) 1 1]).run P W = .ok (.slice (some ⟨L,0,none⟩) (n+1) D) J/\J.ownsRow B e s (.slice (some ⟨L,0,none⟩) (n+1) D) (n+1) (R++u)/\W.grownBy J v.ownBlock:=by
 have H:=T.hi;cases h:P.info? e with
 | none=>rw [h] at H;cases H
 | some i=>
  rw [h] at H;simp only [Option.map_some,Option.some.injEq,Prod.mk.injEq] at H;obtain ⟨I,hs,M⟩:=H;cases E:i.zero with
  | none=>rw [E] at I;cases I
  | some z=>
   rw [E] at I;simp only [Option.map_some,Option.some.injEq] at I;have hm:(n+1)*b<=1073741825*256:=Nat.mul_le_mul hn hb
   obtain ⟨L,D,J,hr,h2,h3,_,_⟩:=run_append_lies (P:=P) W t U B e i z s b T.ht h E hs M I O v n R ho ⟨g,0,none⟩ 1 1 u (by omega) (fun j x V=>by
    rw [a_t,Nat.zero_add];unfold World.cell?;simpa [hg] using V) h1 (by omega) (by unfold maxLen;omega) (by omega) hB _ rfl
   exact ⟨L,D,J,hr,h2,h3⟩
/-- A row of the call's own, told as a value. -/
def OwnG (e:TypeId) (s B n:Nat) (xs:List Value) (v:Value) (W:World):Prop:=∃ g c,v = .slice (some ⟨g,0,none⟩) n c/\W.ownsRow B e s v n xs
theorem OwnG.up {e:TypeId} {s B n:Nat} {D:List Value} {v:Value} {W W':World} (h:OwnG e s B n D v W) (E:Below W.heap.size W W'):OwnG e s B n D v W':=by
 obtain ⟨g,c,e,h⟩:=h;exact ⟨g,c,e,a_C (S:=[]) h (Only.of E) (by simp)⟩
theorem g_x {e:TypeId} {s B n:Nat} {E:List Value} {v:Value} {W W':World} (h:W.ownsRow B e s v n E) (L:W.grownBy W' v.ownBlock):Only [e] W W':=Only.grown L fun k D=>by
 rcases h.2 with ⟨rfl,_⟩|⟨M,H,I,rfl,_,J,_⟩
 ·cases D
 ·cases D;exact ⟨_,_,_,J,by simp⟩
theorem e_q {W:World} {b:Nat} {D E:Value} {e:TypeId} (h:W.heap[b]?=some (.cells #[D,E] e (0,0))):(W.cell? ⟨b,0,none⟩=some D/\W.frozen? ⟨b,0,none⟩=false)/\(W.cell? ⟨b,1,none⟩=some E/\W.frozen? ⟨b,1,none⟩=false):=by
 simp [World.cell?,World.frozen?,h]
theorem q_4 {W U:World} {b:Nat} {t:TypeId} {J I D E:Value} (h:W.heap[b]?=some (.cells #[J,I] t (0,0))) (e:(W.setCell ⟨b,0,none⟩ D).setCell ⟨b,1,none⟩ E=U):
  U.cell? ⟨b,0,none⟩=some D/\U.cell? ⟨b,1,none⟩=some E/\(∀ w B,B<=b->Below B w W->Below B w U)/\Only [t] W U:=by
 have H:U.heap[b]?=some (.cells #[D,E] t (0,0)):=by
  rw [<- e,a_n (a_n h)];rfl
 refine ⟨by simp [World.cell?,H],by simp [World.cell?,H],fun w B hb L=>?_,?_⟩
 ·rw [<- e];exact (L.setCell (p:=⟨b,0,none⟩) hb _).setCell (p:=⟨b,1,none⟩) hb _
 ·rw [<- e];exact (Only.set h (by simp)).trans (Only.set (a_n h) (by simp))
/-- What a run may change: nothing below B, and of the rest only blocks of a tape and of a plan. -/
abbrev S4:List TypeId:=[89,107,121,118]
abbrev S2:List TypeId:=[121,118]
structure Rn (B:Nat) (W W':World):Prop where
 bel:Below B W W'
 onl:Only S2 W W'
theorem Rn.refl (B:Nat) (W:World):Rn B W W:=⟨Below.refl _ _,Only.refl _ _⟩
theorem Rn.trans {B:Nat} {a b c:World} (h:Rn B a b) (D:Rn B b c):Rn B a c:=⟨h.bel.trans D.bel,h.onl.trans D.onl⟩
theorem Rn.of {B:Nat} {a b:World} (D:B<=a.heap.size) (h:Below a.heap.size a b):Rn B a b:=⟨h.mono D,Only.of h⟩
theorem Rn.size {B:Nat} {a b:World} (h:Rn B a b):a.heap.size<=b.heap.size:=h.onl.1
structure R4 (B:Nat) (W W':World):Prop where
 bel:Below B W W'
 onl:Only S4 W W'
theorem R4.refl (B:Nat) (W:World):R4 B W W:=⟨Below.refl _ _,Only.refl _ _⟩
theorem R4.trans {B:Nat} {a b c:World} (h:R4 B a b) (D:R4 B b c):R4 B a c:=⟨h.bel.trans D.bel,h.onl.trans D.onl⟩
theorem R4.of {B:Nat} {a b:World} (D:B<=a.heap.size) (h:Below a.heap.size a b):R4 B a b:=⟨h.mono D,Only.of h⟩
theorem R4.size {B:Nat} {a b:World} (h:R4 B a b):a.heap.size<=b.heap.size:=h.onl.1
theorem Rn.r4 {B:Nat} {a b:World} (h:Rn B a b):R4 B a b:=⟨h.bel,h.onl.more (by simp)⟩
/-- Numbers that a run leaves as they are. -/
def Kept (B:Nat) (W:World) (v:Value) (l:List Int):Prop:=∀ W',R4 B W W'->Nums .i64 W' v l
theorem Kept.up {B:Nat} {W W':World} {v:Value} {l:List Int} (h:Kept B W v l) (E:Rn B W W'):Kept B W' v l:=fun D H=>h D (E.r4.trans H)
theorem Kept.nums {B:Nat} {W:World} {v:Value} {l:List Int} (h:Kept B W v l):Nums .i64 W v l:=h W (R4.refl _ _)
theorem OwnK.kept {e:TypeId} {B E:Nat} {W:World} {v:Value} {l:List Int} (h:OwnK .i64 e W E v l) (he:e∉S4):Kept B W v l:=fun W' D=>(h.only D.onl he).nums
/-- A step of a plan. -/
structure Sp where
 op:Int
 a:Int
 b:Int
 k:Int
 D:List Int
 X:List Int
 par:Bool
def StC (B:Nat) (W:World) (st:Sp) (u:List Value):Prop:=∃ p n c p2 n2 c2,u = [.int .i64 st.op,.int .i64 st.a,.int .i64 st.b,.int .i64 st.k,.slice p n c,.slice p2 n2 c2,.bool st.par]/\Kept B W (.slice p n c) st.D/\Kept B W (.slice p2 n2 c2) st.X
def StsC (B:Nat) (W:World) (sts:List Sp) (xs:List Value):Prop:=xs.length=sts.length*7/\∀ i st,sts[i]?=some st->StC B W st ((xs.drop (i*7)).take 7)
theorem StC.up {B:Nat} {W W':World} {st:Sp} {u:List Value} (h:StC B W st u) (D:Rn B W W'):StC B W' st u:=by
 obtain ⟨p,n,c,L,I,H,e,J,E⟩:=h;exact ⟨p,n,c,L,I,H,e,J.up D,E.up D⟩
theorem StsC.up {B:Nat} {W W':World} {sts:List Sp} {D:List Value} (h:StsC B W sts D) (E:Rn B W W'):StsC B W' sts D:=⟨h.1,fun i st H=>(h.2 i st H).up E⟩
theorem StC.len {B:Nat} {W:World} {st:Sp} {u:List Value} (h:StC B W st u):u.length=7:=by
 obtain ⟨p,n,c,H,E,D,rfl,_⟩:=h;rfl
theorem StC.one {B:Nat} {W:World} {st:Sp} {u:List Value} (h:StC B W st u):∀ x∈u,x.oneCell'=true:=by
 obtain ⟨p,n,c,I,H,E,rfl,_⟩:=h;intro x D;simp at D;rcases D with rfl|rfl|rfl|rfl|rfl|rfl|rfl <;> rfl
theorem StsC.push {B:Nat} {W:World} {sts:List Sp} {J:List Value} {st:Sp} {u:List Value} (h:StsC B W sts J) (H:StC B W st u):StsC B W (sts++[st]) (J++u):=by
 refine ⟨by rw [List.length_append,List.length_append,h.1,H.len];simp;omega,fun i s D=>?_⟩;rcases Nat.lt_or_ge i sts.length with I|I
 ·rw [List.getElem?_append_left I] at D;have L:=h.2 i s D;have M:=h.1;rw [List.drop_append_of_le_length (by omega),List.take_append_of_le_length (by rw [List.length_drop];omega)];exact L
 ·have E:i=sts.length:=by
   have:=(List.getElem?_eq_some_iff.1 D).1;simp at this;omega
  subst E;rw [List.getElem?_append_right (Nat.le_refl _)] at D;simp at D;subst D;rw [<- h.1,List.drop_left,List.take_of_length_le (by rw [H.len];exact Nat.le_refl _)];exact H
theorem StsC.nil (B:Nat) (W:World):StsC B W [] []:=⟨rfl,fun i st h=>by simp at h⟩
/-- A plan under way; what its steps name lay there in the world Wa. -/
def PlanO (B:Nat) (Wa W:World) (pb:Nat) (sts:List Sp) (rest:List Int):Prop:=B<=pb/\Rn B Wa W/\∃ p n c p2 n2 c2 xs,W.heap[pb]?=some (.cells #[.slice p n c,.slice p2 n2 c2] 118 (0,0))/\W.ownsRow B 121 7 (.slice p n c) sts.length xs/\sts.length=n/\StsC B Wa sts xs/\Kept B Wa (.slice p2 n2 c2) rest/\n2<=c2/\rest.length=n2
theorem PlanO.up {B:Nat} {I W W':World} {H:Nat} {sts:List Sp} {rest:List Int} (h:PlanO B I W H sts rest) (D:Below W.heap.size W W'):PlanO B I W' H sts rest:=by
 obtain ⟨hb,L,p,n,c,U,R,M,V,E,J,O⟩:=h;exact ⟨hb,L.trans (Rn.of (Nat.le_trans hb (Nat.le_of_lt (a_i E))) D),p,n,c,U,R,M,V,(D.block _ (a_i E)).trans E,a_C (S:=[]) J (Only.of D) (by simp),O⟩
theorem PlanO.on {B:Nat} {L W:World} {D:Nat} {sts:List Sp} {rest:List Int} (h:PlanO B L W D sts rest):PlanO B W W D sts rest:=by
 obtain ⟨hb,E,p,n,c,p2,U,M,xs,V,J,R,H,I,O⟩:=h;exact ⟨hb,Rn.refl _ _,p,n,c,p2,U,M,xs,V,J,R,H.up E,I.up E,O⟩
theorem PlanO.size {B:Nat} {E W:World} {D:Nat} {sts:List Sp} {rest:List Int} (h:PlanO B E W D sts rest):B<=W.heap.size:=by
 obtain ⟨hb,I,p,n,c,M,L,J,O,H,_⟩:=h;exact Nat.le_trans hb (Nat.le_of_lt (a_i H))
theorem t_4:GT Tryz.prog 93 121 7 88:=⟨Tryz.underlying93,by kernel_rfl⟩
theorem i_7 {W:World} {b:Nat} {J M H L E D I:Value} {e:TypeId} (h:W.heap[b]?=some (.cells #[J,M,H,L,E,D,I] e (0,0))):W.cell? ⟨b,0,none⟩=some J/\W.cell? ⟨b,1,none⟩=some M/\W.cell? ⟨b,2,none⟩=some H/\W.cell? ⟨b,3,none⟩=some L/\W.cell? ⟨b,4,none⟩=some E/\W.cell? ⟨b,5,none⟩=some D/\W.cell? ⟨b,6,none⟩=some I:=by
 simp [World.cell?,h]
theorem s_m {B n s b:Nat} {W:World} {v:Value} {E:List Value} {e t:TypeId} {L:Array Value} {M:Nat×Nat} (h:W.ownsRow B e s v n E) (hb:W.heap[b]?=some (.cells L t M)) (D:e≠t):some b≠v.ownBlock:=by
 rcases h.2 with ⟨rfl,_⟩|⟨g,H,I,rfl,_,J,_⟩
 ·intro h;cases h
 ·intro h;cases h;rw [J] at hb;cases hb;exact D rfl
theorem h_d (B J:Nat) (sts:List Sp) (rest:List Int) (ah:sts.length<=200) (st:Sp) (p:Option Addr) (n c:Nat) (p2:Option Addr) (n2 c2:Nat) (U w:World) (hP:PlanO B U w J sts rest) (h1:Kept B U (.slice p n c) st.D) (h2:Kept B U (.slice p2 n2 c2) st.X):
  Calls Tryz.prog 49 #[.pointer (some ⟨J,0,none⟩),.agg #[.int .i64 st.op,.int .i64 st.a,.int .i64 st.b,.int .i64 st.k,.slice p n c,.slice p2 n2 c2,.bool st.par]] w fun e w'=>e = .returned (.int .i64 (sts.length:Int))/\PlanO B U w' J (sts++[st]) rest/\Rn B w w':=by
 obtain ⟨op,a,b,k,D,X,I⟩:=st;simp only [] at h1 h2 ⊢;obtain ⟨ac,aq,O,aJ,L,pR,nR,cR,xs,hb,ho,hn,hc,hk,ai,ay⟩:=hP;have az:Hid (Rn B U w):=aq;have ak:B<=w.heap.size:=Nat.le_trans ac (Nat.le_of_lt (a_i hb));obtain ⟨N,eN⟩:∃ N,sts.length=N:=⟨_,rfl⟩
 rw [eN] at ho hn ah ⊢;subst hn;have V:Hid (B<=J/\B<=w.heap.size/\w.heap[J]?=some (.cells #[.slice O N L,.slice pR nR cR] 118 (0,0))/\w.ownsRow B 121 7 (.slice O N L) N xs/\StsC B U sts xs/\sts.length=N):=⟨ac,ak,hb,ho,hc,eN⟩
 have HQ:Hid (Kept B U (.slice pR nR cR) rest/\nR<=cR/\rest.length=nR):=⟨hk,ai,ay⟩
 have HS:Hid (Kept B U (.slice p n c) D/\Kept B U (.slice p2 n2 c2) X):=⟨h1,h2⟩
 clear ac hb ho hc hk ai ay h1 h2 ak eN aq;go_enter Tryz.func49,Tryz.ntmps49;go_wp2_with fail
 refine a_P (fun H ag=>?_);have R:Below w.heap.size w H:=by rw [ag];exact a_b _ _
 have ar:H.heap[w.heap.size]?=some (.cells #[.int .i64 op,.int .i64 a,.int .i64 b,.int .i64 k,.slice p n c,.slice p2 n2 c2,.bool I] 121 (0,0)):=by rw [ag];exact heap_alloc_new _ _
 have am:Rn B w H:=Rn.of V.out.2.1 R;have aw:Hid (StC B U ⟨op,a,b,k,D,X,I⟩ [.int .i64 op,.int .i64 a,.int .i64 b,.int .i64 k,.slice p n c,.slice p2 n2 c2,.bool I]):=⟨_,_,_,_,_,_,rfl,HS.out.1,HS.out.2⟩
 have E:Hid (H.heap[J]?=some (.cells #[.slice O N L,.slice pR nR cR] 118 (0,0))/\H.ownsRow B 121 7 (.slice O N L) N xs/\StsC B U sts xs/\Kept B U (.slice pR nR cR) rest/\Rn B w H/\B<=H.heap.size):=⟨(R.block _ (a_i V.out.2.2.1)).trans V.out.2.2.1,a_C (S:=[]) V.out.2.2.2.1 (Only.of R) (by simp),V.out.2.2.2.2.1,HQ.out.1,am,Nat.le_trans V.out.2.1 R.size⟩
 have af:Hid (H.heap[w.heap.size]?=some (.cells #[.int .i64 op,.int .i64 a,.int .i64 b,.int .i64 k,.slice p n c,.slice p2 n2 c2,.bool I] 121 (0,0))/\some w.heap.size≠Value.ownBlock (.slice O N L)):=⟨ar,fun h=>by have:=(World.ownsRow.lt V.out.2.2.2.1 _ h.symm).2;omega⟩
 have aD:Hid (∀ z,Value.ownBlock (.slice O N L)=some z->z < H.heap.size):=fun z aG=>Nat.lt_of_lt_of_le (World.ownsRow.lt V.out.2.2.2.1 z aG).2 R.size;have aI:Hid (∀ z∈([.int .i64 op,.int .i64 a,.int .i64 b,.int .i64 k,.slice p n c,.slice p2 n2 c2,.bool I]:List Value),z.oneCell'=true):=aw.out.one;have ax:Hid (some J≠Value.ownBlock (.slice O N L)):=s_m E.out.2.1 E.out.1 (by decide);clear R ar am ag;refine d_U (by kernel_rfl) ?_;refine seg (fun q W=>match q with|false=>Below H.heap.size H W|true=>H.grownBy W (Value.ownBlock (.slice O N L))) (fun W W'=>W.grownBy W' (Value.ownBlock (.slice O N L))) 7 [⟨6,11,LitS 121 H.heap.size [.int .i64 op,.int .i64 a,.int .i64 b,.int .i64 k,.slice p n c,.slice p2 n2 c2,.bool I]⟩,⟨7,12,OwnG 121 7 B (N+1) (xs++[.int .i64 op,.int .i64 a,.int .i64 b,.int .i64 k,.slice p n c,.slice p2 n2 c2,.bool I])⟩] 0 10 21 rfl rfl (by kernel_rfl) (by rfl) ?_ ?_ ?_ ?_ ?_ ?_
 ·intro q W W' h hb;cases q
  ·exact a_c h hb
  ·exact g_T h hb
 ·exact ⟨rfl,rfl,rfl,Nat.le_refl _,fun _ _=>rfl⟩
 ·exact .inl ⟨_,List.mem_cons_of_mem _ List.mem_cons_self,rfl⟩
 ·intro e he v W W' h hb;simp only [List.mem_cons,List.not_mem_nil,or_false] at he;rcases he with rfl|rfl
  ·exact LitS.up h hb
  ·exact OwnG.up h hb
 ·intro e he aA v W W' h hc ht;simp only [List.mem_cons,List.not_mem_nil,or_false] at he;rcases he with rfl|rfl
  ·exact LitS.grown h ht aD.out
  ·exact absurd rfl aA
 apply Exists.intro;refine ⟨fun x=>?_,?_,?_⟩
 ·simp only [List.drop_succ_cons,List.drop_zero,List.take_succ_cons,List.take_zero]
  iterate 4
   refine b_S rfl rfl ?_;apply Exists.intro;refine ⟨fun b' F hF hf K hK=>?_,?_⟩
   ·have hFc:=hF.cls
    go_big_quiet_op
    first|exact hK|(apply Exists.intro;refine ⟨fun _=>?_,?_⟩;(· fail);exact hK)
   (try simp only [Act.put,sA_,sB_,sC_])
  refine b_S rfl rfl ?_;apply Exists.intro;refine ⟨fun b' F hF hf K hK=>?_,?_⟩
  ·have hFc:=hF.cls
   have q0:∀ d,(F d).cell? ⟨J,0,none⟩=some (.slice O N L):=fun d=>by
    have hK:H.grownBy (F d) (Value.ownBlock (.slice O N L)):=by
     cases b'
     ·exact b_g _ (hFc d)
     ·exact hFc d
    exact (e_q ((hK.block _ (a_i E.out.1) ax.out).trans E.out.1)).1.1
   clear hFc
   go_big_quiet_op
   first|exact hK|(apply Exists.intro;refine ⟨fun _=>?_,?_⟩;(· fail);exact hK)
  (try simp only [Act.put,sA_,sB_,sC_])
  refine b_S rfl rfl ?_;apply Exists.intro;refine ⟨fun b' F hF hf K hK=>?_,?_⟩
  ·have hFc:=hF.cls
   have q0:∀ d,(F d).heap[w.heap.size]?=some (.cells #[.int .i64 op,.int .i64 a,.int .i64 b,.int .i64 k,.slice p n c,.slice p2 n2 c2,.bool I] 121 (0,0)):=fun d=>by
    have hK:H.grownBy (F d) (Value.ownBlock (.slice O N L)):=by
     cases b'
     ·exact b_g _ (hFc d)
     ·exact hFc d
    exact (hK.block _ (a_i af.out.1) af.out.2).trans af.out.1
   have q1:=fun d=>(i_7 (q0 d)).1;have q2:=fun d=>(i_7 (q0 d)).2.1;have q3:=fun d=>(i_7 (q0 d)).2.2.1;have q4:=fun d=>(i_7 (q0 d)).2.2.2.1;have q5:=fun d=>(i_7 (q0 d)).2.2.2.2.1;have q6:=fun d=>(i_7 (q0 d)).2.2.2.2.2.1;have q7:=fun d=>(i_7 (q0 d)).2.2.2.2.2.2;clear hFc q0
   go_big_quiet_op
   first|exact hK|(apply Exists.intro;refine ⟨fun _=>?_,?_⟩;(· fail);exact hK)
  (try simp only [Act.put,sA_,sB_,sC_])
  refine i_T rfl (by decide) rfl ?_ ?_
  ·intro b' F hF hf d;have hFc:=hF.cls
   have ao:H.heap.size<=(F d).heap.size:=by
    cases b'
    ·exact (hFc d).size
    ·exact (hFc d).size
   simp [a_k,a_f,go_sem];exact ⟨⟨(F d).heap.size,rfl,heap_alloc_new (F d) _,ao⟩,a_b _ _⟩
  (try simp only [Act.put,sA_,sB_,sC_])
  refine i_U rfl rfl rfl ?_ ?_
  ·intro W hW hf;have h7:=hf _ List.mem_cons_self (by rfl) W;obtain ⟨g7,e7,aE,_⟩:=h7;simp only [] at e7;obtain ⟨g8,c8,w8,aB,aF,ab⟩:=s_l t_4 (by decide) (by decide) 93 W B (.slice O N L) N xs (a_C (S:=[]) E.out.2.1 (Only.of hW) (by simp)) g7 _ aE rfl aI.out (by omega) (Nat.le_trans E.out.2.2.2.2.2 (Below.size hW));simp [b_P,b_O,execOp,resolve,invoke,builtin,Act.eval,e7,aB,Result.andThen];exact ⟨⟨g8,c8,rfl,aF⟩,d_T (b_g _ hW) ab,ab⟩
  iterate 2
   (try simp only [Act.put,sA_,sB_,sC_])
   refine b_S rfl rfl ?_;apply Exists.intro;refine ⟨fun b' F hF hf K hK=>?_,?_⟩
   ·have hFc:=hF.cls
    go_big_quiet_op
    first|exact hK|(apply Exists.intro;refine ⟨fun _=>?_,?_⟩;(· fail);exact hK)
  (try simp only [Act.put,sA_,sB_,sC_])
  refine m_B ?_;exact rfl
 ·exact fun x=>rfl
 ·intro w8 an av aj;refine f_L 10 (by kernel_rfl) ?_;simp only [List.drop_succ_cons,List.drop_zero];have h8:=aj _ (List.mem_cons_of_mem _ List.mem_cons_self);obtain ⟨x6,e6⟩:∃ z,an 6=z:=⟨_,rfl⟩
  obtain ⟨x7,e7⟩:∃ z,an 7=z:=⟨_,rfl⟩
  simp only [e7] at h8;simp only [e6,e7];obtain ⟨g8,c8,rfl,h8⟩:=h8;have M:H.grownBy w8 (Value.ownBlock (.slice O N L)):=av;have au:Only S2 H w8:=(g_x E.out.2.1 M).more (by simp);have ap:Rn B H w8:=⟨Below.grown (Below.refl _ _) M E.out.2.2.2.2.2 fun z hz=>(World.ownsRow.lt E.out.2.1 z hz).1,au⟩
  have aa:=(M.block _ (a_i E.out.1) ax.out).trans E.out.1;have ae:Rn B H (w8.setCell ⟨J,0,none⟩ (.slice (some ⟨g8,0,none⟩) (N+1) c8)):=ap.trans ⟨(Below.refl _ _).setCell (p:=⟨J,0,none⟩) V.out.1 _,Only.set aa (by simp)⟩;obtain ⟨⟨r0,r1⟩,_⟩:=e_q aa
  have ad:(w8.setCell ⟨J,0,none⟩ (.slice (some ⟨g8,0,none⟩) (N+1) c8)).heap[J]?=some (.cells #[.slice (some ⟨g8,0,none⟩) (N+1) c8,.slice pR nR cR] 118 (0,0)):=by
   rw [a_n aa];rfl
  have z0:=(e_q ad).1.1
  have HF:Hid (PlanO B U (w8.setCell ⟨J,0,none⟩ (.slice (some ⟨g8,0,none⟩) (N+1) c8)) J (sts++[⟨op,a,b,k,D,X,I⟩]) rest/\Rn B w (w8.setCell ⟨J,0,none⟩ (.slice (some ⟨g8,0,none⟩) (N+1) c8))):=by
   refine ⟨⟨V.out.1,az.out.trans (E.out.2.2.2.2.1.trans ae),_,_,_,_,_,_,_,ad,?_,by rw [List.length_append,V.out.2.2.2.2.2];rfl,E.out.2.2.1.push aw.out,E.out.2.2.2.1,HQ.out.2⟩,E.out.2.2.2.2.1.trans ae⟩;rw [List.length_append,V.out.2.2.2.2.2];exact a_C (S:=[118]) h8 (Only.set aa (by simp)) (by decide)
  have aC:((N+1:Nat):Int) - 1=(N:Int):=by omega
  have aH:wrap64 (N:Int)=(N:Int):=by unfold wrap64;omega
  clear av M au ap ae aa ad h8 aj e6 e7;go_wp2;exact bodyPost_ret (v:=.int .i64 (N:Int)) (by simp [results,Tryz.results49,go_sem,aC,aH]) rfl ⟨rfl,HF.out⟩
end Go.Proofs.YtcpbhhlepdgdkaaGreatDoor.Wd
namespace Go.Proofs.YtcpbhhlepdgdkaaGreatDoor.Wd
open Go.RowKit Fx
/-- An order of one's own. -/
def RowO (B:Nat) (o:List Int) (v:Value) (W:World):Prop:=∃ p n c,v = .slice p n c/\OwnK .i64 3 W B (.slice p n c) o
theorem RowO.up {B:Nat} {o:List Int} {v:Value} {W W':World} (h:RowO B o v W) (D:Below W.heap.size W W'):RowO B o v W':=by
 obtain ⟨p,n,c,e,E⟩:=h;exact ⟨p,n,c,e,E.up D⟩
theorem q_5 (p p2:Option Addr) (n c n2 c2:Nat) (d x:List Int) (D:Int) (hr:InR D) (hd:RI d) (hx:RI x) (bg:n<=10) (w:World) (h1:Nums .i64 w (.slice p n c) d) (h2:Nums .i64 w (.slice p2 n2 c2) x):
  Calls Tryz.prog 111 #[.agg #[.slice p n c,.slice p2 n2 c2],.int .i64 D] w fun e w'=>∃ v',e = .returned (.tuple #[v',.int .i64 (smE d x D)])/\TRes w' w.heap.size v' (smD d x D) (smV d x D)/\Below w.heap.size w w':=by
 obtain ⟨_,_,_,e4,HD⟩:=h1.lst;cases e4;obtain ⟨_,_,_,e4,HX⟩:=h2.lst;cases e4;have aR:d.length=n:=HD.out.1;obtain ⟨O,eO⟩:∃ O,c_s n D=O:=⟨_,rfl⟩
 have rO:RI O:=fun y hy=>by
  rw [<- eO] at hy;unfold c_s i_I at hy;rcases List.mem_append.1 hy with h|h
  ·obtain ⟨k,hk,rfl⟩:=List.mem_map.1 (List.mem_filter.1 h).1;have:=List.mem_range.1 hk;omega
  ·simp at h;rw [h];exact hr
 obtain ⟨E,eE⟩:∃ E,h_Z d x O=E:=⟨_,rfl⟩
 obtain ⟨DD,az⟩:∃ E,g_4 d x O=E:=⟨_,rfl⟩
 obtain ⟨VV,aK⟩:∃ E,e_P d x O=E:=⟨_,rfl⟩
 have cL:Hid (∀ B W,B<=W.heap.size->Calls Tryz.prog 140 #[.int .i64 (n:Int),.int .i64 D] W fun e w'=>∃ u,e = .returned u/\RowO B O u w'/\Below W.heap.size W w'):=fun B W hB=>by
  rw [<- eO];refine (h_2 n (by omega) D hr W).mono ?_;rintro e w' ⟨u,rfl,h,hb⟩;obtain ⟨q,m,k,rfl,_⟩:=h.nums.lst;exact ⟨_,rfl,⟨_,_,_,rfl,h.low hB⟩,hb⟩
 have cT:Hid (∀ B W B' v,B<=W.heap.size->Below w.heap.size w W->RowO B' O v W->Calls Tryz.prog 124 #[.agg #[.slice p n c,.slice p2 n2 c2],v] W fun e w'=>∃ u,e = .returned u/\TupP B DD VV E u w'/\Below W.heap.size W w'):=fun B W B' v hB hW hv=>by
  obtain ⟨q,m,k,rfl,h⟩:=hv;rw [<- eE,<- az,<- aK];refine (l_6 p p2 q n c n2 c2 m k d x O hd rO W (h1.up hW) (h2.up hW) h.nums).mono ?_;rintro e w' ⟨u,rfl,h,hb⟩;exact ⟨_,rfl,⟨u,rfl,(h.low hB).own⟩,hb⟩
 have HE:Hid (c_s n D=O/\h_Z d x O=E/\g_4 d x O=DD/\e_P d x O=VV/\d.length=n/\RI x/\InR D):=⟨eO,eE,az,aK,aR,hx,hr⟩
 have HN:Hid (Nums .i64 w (.slice p n c) d/\Nums .i64 w (.slice p2 n2 c2) x):=⟨h1,h2⟩
 have aZ:(n:Int)<=10:=by omega
 have bk:-9223372036854775808<=D/\D<=9223372036854775807:=hr;obtain ⟨sE,ay⟩:∃ e,smE d x D=e:=⟨_,rfl⟩
 obtain ⟨sD,aD⟩:∃ e,smD d x D=e:=⟨_,rfl⟩
 obtain ⟨sV,aH⟩:∃ e,smV d x D=e:=⟨_,rfl⟩
 rw [ay,aD,aH];have HM:Hid (smE d x D=sE/\smD d x D=sD/\smV d x D=sV):=⟨ay,aD,aH⟩
 haveI:Nonempty World:=⟨w⟩
 clear ay aD aH eO eE az aK rO hd hx h1 h2 aR hr;go_enter Tryz.func111,Tryz.ntmps111;go_wp2_with fail
 refine a_P (fun V an=>?_);have B0:Below w.heap.size w V:=by rw [an];go_grown
 have XA:Hid (Cel V w.heap.size (.slice p n c) (.slice p2 n2 c2)):=by show Cel _ _ _ _;unfold Cel;rw [an];simp [go_sem]
 have XR:Hid (Cel V (w.heap.size+1) (.slice none 0 0) (.slice none 0 0)):=by show Cel _ _ _ _;unfold Cel;rw [an];simp [go_sem]
 have aU:Hid (Below w.heap.size w V):=B0;clear an B0;obtain ⟨a0,a1,_,_⟩:=XA.out;have a9:=a_a a0;refine l_F [⟨5,17,RowO V.heap.size O⟩,⟨6,18,TupP V.heap.size DD VV E⟩,⟨7,11,TupP V.heap.size DD VV E⟩,⟨8,19,OwnT V.heap.size DD VV⟩,⟨10,6,NewC V.heap.size⟩] 11 66 (by kernel_rfl) rfl rfl 9 _ rfl (by decide) rfl (by kernel_rfl) (by kernel_rfl) (fun _ _ _ _ h=>h) (by rfl) ?_ ?_
 ·intro e he v W W' h hb;simp only [List.mem_cons,List.not_mem_nil,or_false] at he;rcases he with rfl|rfl|rfl|rfl|rfl
  ·exact RowO.up h hb
  ·exact TupP.up h hb
  ·exact TupP.up h hb
  ·exact OwnT.up h hb
  ·exact NewC.up h hb
 apply Exists.intro;refine ⟨?yl1,?wk1,?pk1,?rest1⟩
 case wk1=>
  intro x;simp only [List.take_succ_cons,List.take_zero]
  iterate 5
   refine a_l rfl rfl ?_;apply Exists.intro;refine ⟨fun F hF hf K hK=>?_,?_⟩
   ·have hFc:=hF.cell;have hFf:=hF.frozen
    go_big_quiet_op
    exact hK
   (try simp only [c_K])
  refine a_q rfl rfl ?_ ?_
  ·intro F hF hf d;have hFc:=hF.cell;have hFf:=hF.frozen;simp [a_k,a_f,go_sem];refine (cL.out V.heap.size (F d) (hF.below d).size).mono ?_;rintro e' w8 ⟨v8,rfl,h8,aA⟩;exact ⟨_,rfl,h8,aA⟩
  (try simp only [c_K])
  refine a_q rfl rfl ?_ ?_
  ·intro F hF hf d;have hFc:=hF.cell;have hFf:=hF.frozen;have h9:=hf _ List.mem_cons_self (by rfl) d;simp [a_k,a_f,go_sem];refine (cT.out V.heap.size (F d) _ _ (hF.below d).size (a_c aU.out (hF.below d)) h9).mono ?_;rintro e' w8 ⟨v8,rfl,h8,aA⟩;exact ⟨_,rfl,h8,aA⟩
  (try simp only [c_K])
  refine a_q rfl rfl ?_ ?_
  ·intro F hF hf d;have hFc:=hF.cell;have hFf:=hF.frozen;have h9:=hf _ (List.mem_cons_of_mem _ List.mem_cons_self) (by rfl) d;simp [a_k,a_f,go_sem];exact ⟨h9,Below.refl _ _⟩
  (try simp only [c_K])
  refine a_q rfl rfl ?_ ?_
  ·intro F hF hf d;have hFc:=hF.cell;have hFf:=hF.frozen;have h9:=hf _ (List.mem_cons_of_mem _ (List.mem_cons_of_mem _ List.mem_cons_self)) (by rfl) d;obtain ⟨u9,e9,o9⟩:=h9;simp only [] at e9;simp [a_k,a_f,go_sem,e9];exact ⟨o9,Below.refl _ _⟩
  (try simp only [c_K])
  refine a_l rfl rfl ?_;apply Exists.intro;refine ⟨fun F hF hf K hK=>?_,?_⟩
  ·have hFc:=hF.cell;have hFf:=hF.frozen;have h9:=hf _ (List.mem_cons_of_mem _ (List.mem_cons_of_mem _ List.mem_cons_self)) (by rfl);obtain ⟨u9,e9,_⟩:=h9 w;simp only [] at e9
   go_big_quiet_op
   exact hK
  (try simp only [c_K])
  refine a_q rfl rfl ?_ ?_
  ·intro F hF hf d;have hFc:=hF.cell;have hFf:=hF.frozen;simp [a_k,a_f,go_sem];exact ⟨⟨(F d).heap.size,rfl,by show ((F d).heap.push _)[(F d).heap.size]?=_;simp,(hF.below d).size⟩,a_b _ _⟩
  (try simp only [c_K])
  refine b_c ?_;exact rfl
 case pk1=>
  intro x;simp only [b_l,List.foldl_cons,List.foldl_nil,Act.put,sA_,sB_,sC_]
 case yl1=>
  intro x hx;obtain ⟨W9,u9,e9,_⟩:=hx _ (List.mem_cons_of_mem _ (List.mem_cons_of_mem _ List.mem_cons_self)) (by rfl);simp only [] at e9;refine ⟨.int .i64 E,fun t ht=>?_,.inl ⟨by rfl,fun w=>?_⟩⟩
  ·cases ht;rfl
  ·simp [execOp,Act.eval,e9,go_sem]
 intro z1 xs aq hf;simp only [List.drop_succ_cons,List.drop_zero];have bd:=hf _ (List.mem_cons_of_mem _ (List.mem_cons_of_mem _ (List.mem_cons_of_mem _ List.mem_cons_self)));have hN:=hf _ (List.mem_cons_of_mem _ (List.mem_cons_of_mem _ (List.mem_cons_of_mem _ (List.mem_cons_of_mem _ List.mem_cons_self))));obtain ⟨U,L,I,R,M,J,ev,o1,o2⟩:=bd;obtain ⟨g6,eb,ah,aE⟩:=hN;simp only [] at ev eb;obtain ⟨x5,e5⟩:∃ q,xs 5=q:=⟨_,rfl⟩
 obtain ⟨x6,e6⟩:∃ q,xs 6=q:=⟨_,rfl⟩
 obtain ⟨x7,e7⟩:∃ q,xs 7=q:=⟨_,rfl⟩
 simp only [ev,eb,e5,e6,e7];have a5:=c_r ah;have f1:=o1.off_type ah (by decide);have f2:=o2.off_type ah (by decide);have hS:Below V.heap.size V (set2 z1 g6 (.slice U L I) (.slice R M J)):=a_8 aq g6 aE _ _;have HO:Hid (OwnK .i64 3 (set2 z1 g6 (.slice U L I) (.slice R M J)) V.heap.size (.slice U L I) DD/\OwnK .i64 48 (set2 z1 g6 (.slice U L I) (.slice R M J)) V.heap.size (.slice R M J) VV/\V.heap.size<=g6):=⟨o1.stay (Stay.set2 _ _ _) f1,o2.stay (Stay.set2 _ _ _) f2,aE⟩
 have am:Hid (Cel (set2 z1 g6 (.slice U L I) (.slice R M J)) g6 (.slice U L I) (.slice R M J)):=(c_r ah).set _ _;have aa:Hid (Below w.heap.size w (set2 z1 g6 (.slice U L I) (.slice R M J))/\Below V.heap.size V (set2 z1 g6 (.slice U L I) (.slice R M J))):=⟨a_c aU.out hS,hS⟩
 obtain ⟨c0,c1,bb,be⟩:=a5;have cz:=a_a c0;clear hf e5 e6 e7 ev eb f1 f2 o1 o2 cL cT a0 a1 a9 hS aE aq ah;by_cases hs:smP d x D
 ·obtain ⟨hp,aG,aw⟩:=hs;obtain ⟨a,ga,rfl⟩:=b_n hp.1;obtain ⟨s,rfl⟩:=Int.eq_ofNat_of_zero_le aG;rw [a_v] at aw;have ac:s < a.length:=by omega
  have au:x.length=a_e a:=by have:=hp.2;rw [a_p] at this;exact this
  have aI:a.length=n:=by have:=HE.out.2.2.2.2.1;rw [a_v] at this;exact this
  obtain ⟨k1,k2,k3,k4⟩:=q_u ga au s ac;rw [aI,HE.out.1] at k1 k2 k3 k4;have hE:E=0:=by rw [<- HE.out.2.1];exact k1
  rw [HE.out.2.2.1] at k2;rw [HE.out.2.2.2.1] at k3 k4;subst hE k2;have ap:smP (itl a) x (s:Int):=⟨hp,aG,by rw [a_v];exact aw⟩
  have ax:sE=0:=by rw [<- HM.out.1];exact if_pos ap
  have av:sD=itl (b_m a s):=by rw [<- HM.out.2.1];unfold smD;rw [if_pos ap,a_p];rfl
  have ak:sV=p_l a s x:=by rw [<- HM.out.2.2];unfold smV;rw [if_pos ap,a_p];rfl
  subst ax av;obtain ⟨C,eC⟩:∃ C,a.getD s 0=C:=⟨_,rfl⟩
  obtain ⟨N,eN⟩:∃ N,a_e (b_m a s)=N:=⟨_,rfl⟩
  have ag:N*C=a_e a:=by rw [<- eN,<- eC];exact d_A a s ac
  have ba:1<=C:=by rw [<- eC];exact j_Q ga s ac
  have aP:1<=N:=by rw [<- eN];exact (d_e ga s ac).pos
  have a2:N<=4096:=by rw [<- eN];exact (d_e ga s ac).2.2
  have a6:C<=4096:=by have:=Nat.mul_le_mul_right C aP;rw [ag,Nat.one_mul] at this;have:=ga.2.2;omega
  have aT:n2=N*C:=by rw [ag,<- au];exact HX.out.1.symm
  have hQ:(n2:Int) / (C:Int)=(N:Int):=by
   rw [aT]
   push_cast
   exact Int.mul_ediv_cancel _ (by omega)
  rw [eC,eN] at k4;rw [eC] at HO
  have HS:Hid (sV=p_l a s x/\sV.length=N/\VV.length=N*C/\(∀ i k,i < N->k < C->VV.getD (i*C+k) 0=x.getD ((i / a_e (a.drop (s+1))*C+k)*a_e (a.drop (s+1))+i % a_e (a.drop (s+1))) 0)/\a.getD s 0=C/\a_e (b_m a s)=N/\RI VV/\a.length=n/\s < a.length/\N*C<=4096):=by
   refine ⟨ak,by rw [ak,o_d,eN],by rw [k3,ag],k4,eC,eN,fun y hy=>?_,aI,ac,by rw [ag];exact ga.2.2⟩;rw [<- HE.out.2.2.2.1] at hy;unfold e_P at hy
   split at hy
   ·obtain ⟨i,_,rfl⟩:=List.mem_map.1 hy;exact b_H HE.out.2.2.2.2.2.1 _
   ·cases hy
  obtain ⟨q,o,rfl,aS⟩:=HD.out.2 s (by omega);rw [a_O,eC] at aS;have bo:(s:Int) < (n:Int):=by omega
  have bp:1<=(C:Int)/\(C:Int)<=4096:=by omega
  have bu:1<=(N:Int)/\(N:Int)<=4096:=by omega
  have bi:(n2:Int)<=4096:=by have:=HS.out.2.2.2.2.2.2.2.2.2;omega
  have bj:1<=(n:Int):=by omega
  obtain ⟨n',aX⟩:∃ n',n=n'+1:=⟨n - 1,by omega⟩
  have en:(n:Int) - 1=(n':Int):=by omega
  have Hn:Hid (n=n'+1):=aX;clear hp aG aw au aI k1 k3 k4 ap ak eC eN ag ba a6 aP a2 aT ac ga aX;obtain ⟨Wz,aV⟩:∃ Wz,(set2 z1 g6 (.slice U L I) (.slice R M J))=Wz:=⟨_,rfl⟩
  rw [aV] at HO aa am;obtain ⟨q0,q1,_,_⟩:=am.out;obtain ⟨a0,a1,_,_⟩:=XA.out.up aa.out.2;have q9:=a_a q0;have a9:=a_a a0;have ua:=a_d aS aa.out.1;have aY:=a_a ua;go_wp2_with (at_make;refine a_y k_C (by decide) _ rfl (.tmp 34) (.tmp 34) rfl .i64 .i64 N N N rfl rfl rfl rfl (by omega) Wz.heap.size Wz (Nat.le_refl _) (Below.refl _ _) ?_;intro w4 aJ B4 a7;clear a7)
  clear q0 q1 a0 a1 q9 a9 ua aY aV c0 c1 bb be cz;obtain ⟨g,hg⟩:∃ g,Wz.heap.size=g:=⟨_,rfl⟩
  rw [hg] at aJ ⊢;have af:Hid (Below w.heap.size w w4/\Below V.heap.size V w4/\Below Wz.heap.size Wz w4):=⟨a_c aa.out.1 B4,a_c aa.out.2 B4,B4⟩
  have Hg:Hid (Wz.heap.size=g/\g6 < g/\V.heap.size<=g/\w.heap.size+1 < V.heap.size):=⟨hg,by rw [<- hg];exact a_a am.out.1,by rw [<- hg];exact aa.out.2.size,a_a XR.out.1⟩
  have a4:Hid (OwnK .i64 48 w4 g (.slice (some ⟨g,0,none⟩) N N) (b_I sV 0)):=by
   show OwnK _ _ _ _ _ _;rw [a_1,HS.out.2.1];exact aJ.out
  clear aJ B4 hg
  go_loopg [38] N (fun gg i wr=>∃ (k:Nat),k<=N/\gg=N - k/\i = .int .i64 (k:Int)/\Hid (OwnK .i64 48 wr g (.slice (some ⟨g,0,none⟩) N N) (b_I sV k))/\Hid (Below w.heap.size w wr/\Stay g w4 wr))
  case atStart=>exact ⟨0,by omega,by omega,by first|rfl|simp,a4,af.out.1,Stay.refl _ _⟩
  case round=>
   obtain ⟨k,hk,bn,rfl,aC,ab⟩:=hrel;obtain ⟨R1,a3⟩:∃ R1:World,R1=wr:=⟨_,rfl⟩
   subst a3;have xA:Cel R1 w.heap.size (.slice (some ⟨q,o,none⟩) n c) (.slice p2 n2 c2):=(XA.out.up af.out.2.1).stay ab.out.2 (by have:=Hg.out;omega);have xR:Cel R1 (w.heap.size+1) (.slice none 0 0) (.slice none 0 0):=(XR.out.up af.out.2.1).stay ab.out.2 (by have:=Hg.out;omega);have x6:Cel R1 g6 (.slice U L I) (.slice R M J):=(am.out.up af.out.2.2).stay ab.out.2 (by have:=Hg.out;omega);have o7:OwnK .i64 48 R1 V.heap.size (.slice R M J) VV:=(HO.out.2.1.up af.out.2.2).stay ab.out.2 (HO.out.2.1.off_new (by have:=Hg.out;omega));have o6:OwnK .i64 3 R1 V.heap.size (.slice U L I) (itl (b_m a s++[C])):=(HO.out.1.up af.out.2.2).stay ab.out.2 (HO.out.1.off_new (by have:=Hg.out;omega));by_cases ai:k < N
   ·have bq:(k:Int) < (N:Int):=by omega
    obtain ⟨Z,eZ⟩:=r_S R k C J;obtain ⟨C1,aL⟩:∃ C1,J - k*C=C1:=⟨_,rfl⟩
    rw [aL] at eZ
    have nV:∀ W,Below R1.heap.size R1 W->Nums .i64 W (.slice Z C C1) ((List.range C).map fun j=>VV.getD (k*C+j) 0):=fun W hW=>by
     have:=o_i N C k HS.out.2.2.1 ai o7.cap (o7.up hW).nums;rw [eZ] at this;exact this
    have rV:RI ((List.range C).map fun j=>VV.getD (k*C+j) 0):=fun y hy=>by
     obtain ⟨i,_,rfl⟩:=List.mem_map.1 hy;exact b_H HS.out.2.2.2.2.2.2.1 _
    have wT:=g_3 rV (by rw [List.length_map,List.length_range];omega)
    have eT:hold (b_v ((List.range C).map fun j=>VV.getD (k*C+j) 0))=sV.getD k 0:=by
     rw [HS.out.1,q_l a s x k (by rw [HS.out.2.2.2.2.2.1];exact ai),HS.out.2.2.2.2.1];unfold s_P b_v;rw [List.length_map,List.length_range]
     congr 1
     refine a_9 C fun j hj=>?_;rw [a_J _ _ _ _ hj,HS.out.2.2.2.1 k j ai hj]
    have ar:Hid (∀ W,Below R1.heap.size R1 W->Calls Tryz.prog 142 #[.slice Z C C1] W fun e w'=>e = .returned (wd (b_v ((List.range C).map fun j=>VV.getD (k*C+j) 0)))/\Below W.heap.size W w'):=fun W hW=>f_B Z C C1 _ rV (by omega) W (nV W hW);have aj:∀ W,Calls Tryz.prog 141 #[wd (b_v ((List.range C).map fun j=>VV.getD (k*C+j) 0))] W fun e w'=>e = .returned (.int .i64 (hold (b_v ((List.range C).map fun j=>VV.getD (k*C+j) 0))))/\Below W.heap.size W w':=fun W=>e_y _ wT W;rw [eT] at aj;obtain ⟨th,tl,et,t1,t2,t3,t4,Ht⟩:=words wT;rw [et] at ar aj;obtain ⟨Y,eY⟩:∃ Y,sV.getD k 0=Y:=⟨_,rfl⟩
    rw [eY] at aj;have HY:Hid (sV.getD k 0=Y):=eY;have aW:k*C+C<=N*C:=by have:=Nat.mul_le_mul_right C (show k+1<=N by omega);rw [Nat.add_mul,Nat.one_mul] at this;exact this
    obtain ⟨A,eA⟩:∃ A,k*C=A:=⟨_,rfl⟩
    obtain ⟨B,eB⟩:∃ B,(k+1)*C=B:=⟨_,rfl⟩
    have bl:(k:Int)*(C:Int)=(A:Int):=by rw [<- eA];push_cast;rfl
    have bm:((k:Int)+1)*(C:Int)=(B:Int):=by rw [<- eB];push_cast;rfl
    have br:A+C=B:=by rw [<- eA,<- eB,Nat.add_mul,Nat.one_mul]
    have aM:=o7.cap;have ae:VV.length=M:=by obtain ⟨_,_,_,e4,H⟩:=o7.nums.lst;cases e4;exact H.out.1
    have bc:B<=4096/\B<=M:=by
     have h1:=HS.out.2.2.2.2.2.2.2.2.2;have h2:=HS.out.2.2.1;rw [eA] at aW;omega
    rw [eA,eB] at eZ;have kc:=fun W=>l_V R M J A B (by omega) (by omega) W;rw [eZ] at kc;have bh:(B:Int)<=4096/\0<=(A:Int)/\(A:Int)<=4096:=by omega
    obtain ⟨s0,s1,_,_⟩:=x6;have s9:=a_a s0;have bv:=aC;clear eT et wT rV nV eZ aL eY aW eA eB aM ae bc o7 o6 xA xR;go_wp2_with fail
    refine (ar.out R1 (Below.refl _ _)).mono ?_;rintro e w6 ⟨rfl,aQ⟩;have a8:Hid (Below R1.heap.size R1 w6):=aQ;clear aQ ar;go_wp2_with fail
    refine (aj w6).mono ?_;rintro e w7 ⟨rfl,aO⟩;have ao:Below R1.heap.size R1 w7:=a_c a8.out aO;have aF:=aC.out.up ao;obtain ⟨aN,bs⟩:=aF.cell (by rw [a_z];exact HS.out.2.1) k ai;have bt:=a_a aN
    have H5:Hid (OwnK .i64 48 (w7.setCell ⟨g,k,none⟩ (.int .i64 Y)) g (.slice (some ⟨g,0,none⟩) N N) (b_I sV (k+1))):=by
     have:=aF.store (by rw [a_z];exact HS.out.2.1) k Y;rw [<- HY.out,b_r sV k (by rw [HS.out.2.1];exact ai)] at this;rw [<- HY.out];exact this
    have bf:w.heap.size<=g:=by have:=Hg.out;omega
    have H6:Hid (Below w.heap.size w (w7.setCell ⟨g,k,none⟩ (.int .i64 Y))/\Stay g w4 (w7.setCell ⟨g,k,none⟩ (.int .i64 Y))):=⟨(a_c ab.out.1 ao).setCell (p:=⟨g,k,none⟩) bf _,(ab.out.2.up ao).set _ _⟩
    clear aO ao aF aj s0 s1 s9;go_wp2;go_roundg (N - (k+1))
    case measure=>omega
    case rel=>exact ⟨k+1,by omega,rfl,by first|rfl|simp,H5,H6⟩
   ·obtain rfl:k=N:=by omega
    have ad:=aC.out;rw [<- HS.out.2.1,b_h,HS.out.2.1] at ad;have ae:(itl (b_m a s++[C])).length=L:=by obtain ⟨_,_,_,e4,H⟩:=o6.nums.lst;cases e4;exact H.out.1
    have aB:(b_m a s).length=n':=by
     have h1:=HS.out.2.2.2.2.2.2.2.1;have h2:=HS.out.2.2.2.2.2.2.2.2.1;have h3:=Hn.out;simp only [b_m,List.length_append,List.length_take,List.length_drop];omega
    rw [a_v,List.length_append,List.length_singleton,aB] at ae;obtain ⟨Z,eZ⟩:=d_f U 0 n' I;have kc:=fun W=>r_L U L I n' (by have:=o6.cap;omega) W;rw [eZ] at kc;rw [Nat.sub_zero,Nat.sub_zero] at kc
    have oD:OwnK .i64 3 R1 V.heap.size (.slice Z n' I) (itl (b_m a s)):=by
     have:=o6.cut n' (show n'<=L by omega);rw [eZ,Nat.sub_zero,Nat.sub_zero] at this
     have e:(itl (b_m a s++[C])).take n'=itl (b_m a s):=by
      unfold itl;rw [List.map_append,List.take_left' (by rw [List.length_map];exact aB)]
     rw [e] at this;exact this
    have HF:Hid (TRes (set2 R1 (w.heap.size+1) (.slice Z n' I) (.slice (some ⟨g,0,none⟩) k k)) w.heap.size (.agg #[.slice Z n' I,.slice (some ⟨g,0,none⟩) k k]) (itl (b_m a s)) sV/\Below w.heap.size w (set2 R1 (w.heap.size+1) (.slice Z n' I) (.slice (some ⟨g,0,none⟩) k k))):=
     ⟨⟨_,_,rfl,(oD.stay (Stay.set2 _ _ _) (oD.off (by have:=Hg.out;omega))).low (by have:=Hg.out;omega),(ad.stay (Stay.set2 _ _ _) (ad.off (by have:=Hg.out;omega))).low (by have:=Hg.out;omega)⟩,a_j ab.out.1 _ (by omega) _ _⟩
    have cf:=xR.set (.slice Z n' I) (.slice (some ⟨g,0,none⟩) k k);obtain ⟨a0,a1,_,_⟩:=xA;obtain ⟨s0,s1,_,_⟩:=x6;obtain ⟨r0,r1,r2,r3⟩:=xR;obtain ⟨y0,y1,_,_⟩:=cf;have a9:=a_a a0;have s9:=a_a s0;clear ad o6 o7 oD eZ ae aB;go_wp2;exact bodyPost_ret (v:=.tuple #[.agg #[.slice Z n' I,.slice (some ⟨g,0,none⟩) k k],.int .i64 0]) (by simp [results,Tryz.results111,go_sem,y0,y1]) rfl ⟨_,rfl,HF.out⟩
 ·obtain ⟨k1,k2,k3,k4,k5,k6⟩:=q_t hs;rw [HE.out.2.2.2.2.1,HE.out.1] at k4 k5 k6;have hE:E=1:=by rw [<- HE.out.2.1];exact k4
  have ax:sE=1:=by rw [<- HM.out.1];exact k1
  have av:sD = []:=by rw [<- HM.out.2.1];exact k2
  have ak:sV = []:=by rw [<- HM.out.2.2];exact k3
  subst hE ax av ak;clear k1 k2 k3 k4 k5 k6 hs;have xr:=XR.out.up aa.out.2;have BF:=a_j aa.out.1 (w.heap.size+1) (by omega) (.slice none 0 0) (.slice none 0 0);have cf:=xr.set (.slice none 0 0) (.slice none 0 0);obtain ⟨r0,r1,r2,r3⟩:=xr;obtain ⟨y0,y1,_,_⟩:=cf;go_wp2;exact bodyPost_ret (v:=.tuple #[.agg #[.slice none 0 0,.slice none 0 0],.int .i64 1]) (by simp [results,Tryz.results111,go_sem,y0,y1]) rfl ⟨_,rfl,TRes.none _ _,BF⟩
end Go.Proofs.YtcpbhhlepdgdkaaGreatDoor.Wd
