/- The code's start of a sweep. · The code' -/
import Derived.Test.YtcpbhhlepdgdkaaGreatDoorT29
set_option linter.unusedVariables false
set_option linter.unusedSimpArgs false
set_option maxHeartbeats 16000000
set_option maxRecDepth 16000
namespace Go.Proofs.YtcpbhhlepdgdkaaGreatDoor.Wd
open Go.RowKit Fx
def MadeC (e:TypeId) (N K:Nat) (c:Value) (B:Nat) (v:Value) (W:World):Prop:=∃ b,v = .slice (some ⟨b,0,none⟩) N N/\W.heap[b]?=some (.cells (List.replicate K c).toArray e (0,0))/\B<=b
theorem MadeC.up {e:TypeId} {N K:Nat} {c:Value} {B:Nat} {v:Value} {W W':World} (h:MadeC e N K c B v W) (H:Below W.heap.size W W'):MadeC e N K c B v W':=by
 obtain ⟨b,I,D,E⟩:=h;exact ⟨b,I,(H.block _ (a_i D)).trans D,E⟩
/-- Noughts so far, nothing behind. -/
def nou (ns:List Nd) (i:Nat):Ten:=((ndN ns (i:Int)).D,List.replicate (ndN ns (i:Int)).X.length (0:Int))
def stK (ns:List Nd) (N k:Nat):List Ten:=(List.range N).map fun i=>if i < k then nou ns i else noT
theorem h_s (ns:List Nd) (N k:Nat):(stK ns N k).length=N:=by simp [stK]
theorem r_m (ns:List Nd) (N k:Nat) (E:k < N):(stK ns N k).set k (nou ns k)=stK ns N (k+1):=by
 refine List.ext_getElem? fun j=>?_;rw [List.getElem?_set];unfold stK;by_cases D:j < N
 ·simp only [List.getElem?_map,List.getElem?_range D,Option.map_some,List.length_map,List.length_range];by_cases e:k=j
  ·subst e;rw [if_pos rfl,if_pos E,if_pos (by omega)]
  ·rw [if_neg e];by_cases h:j < k
   ·rw [if_pos h,if_pos (by omega)]
   ·rw [if_neg h,if_neg (by omega)]
 ·rw [if_neg (by omega),List.getElem?_eq_none (by simp;omega),List.getElem?_eq_none (by simp;omega)]
theorem p_a (ns:List Nd) (root:Nat):stK ns (root+1) (root+1)=(List.range (root+1)).map (nou ns):=by
 unfold stK;refine List.map_congr_left fun i D=>?_;rw [if_pos (List.mem_range.1 D)]
theorem p_N (ns:List Nd) (N k i:Nat) (D:i < N) (E:i < k):(stK ns N k)[i]?=some (nou ns i):=by
 unfold stK;rw [List.getElem?_map,List.getElem?_range D,Option.map_some,if_pos E]
theorem SwC.fresh {W:World} {B J L E D N:Nat} (ns:List Nd) (O:W.heap[J]?=some (.cells #[.pointer (some ⟨L,0,none⟩),.slice (some ⟨E,0,none⟩) N N,.slice (some ⟨D,0,none⟩) N N] 105 (0,0))) (V:W.heap[E]?=some (.cells (List.replicate (N*2) (.slice none 0 0)).toArray 77 (0,0))) (U:W.heap[D]?=some (.cells (List.replicate N (.bool false)).toArray 4 (0,0))) (M:B<=J/\B<=E/\B<=D):SwC W B J L E D N (stK ns N 0) (List.replicate N false):=by
 refine ⟨O,⟨_,V,by simp [stK],fun i t H=>?_⟩,by rw [U];simp,M,h_s _ _ _,by simp⟩;have I:i < N:=by have:=(List.getElem?_eq_some_iff.1 H).1;rw [h_s] at this;exact this
 have R:t=noT:=by
  unfold stK at H;rw [List.getElem?_map,List.getElem?_range I] at H;simpa using H.symm
 subst R;exact ⟨_,_,by rw [List.getElem?_replicate,if_pos (by omega)],by rw [List.getElem?_replicate,if_pos (by omega)],OwnK.nil _ _ _ _,OwnK.nil _ _ _ _⟩
/-- The newest gradient's numbers lie in a block of their own. -/
def s_T (W:World) (gb k:Nat):Prop:=∀ i u v,i+1 < k->W.cell? ⟨gb,i*2+1,none⟩=some u->W.cell? ⟨gb,(k - 1)*2+1,none⟩=some v->∀ b,v.ownBlock=some b->u.ownBlock≠some b
/-- One for the root. -/
theorem SwC.one {W:World} {B sb tb O vb root:Nat} {ns:List Nd} {gv:List Bool} (h:SwC W B sb tb O vb (root+1) (stK ns (root+1) (root+1)) gv) (hl:s_T W O (root+1)) (h1:(ndN ns (root:Int)).X.length=1):
  ∃ q c,W.cell? ⟨O,root*2+1,none⟩=some (.slice (some ⟨q,0,none⟩) 1 c)/\(∃ v,W.cell? ⟨q,0,none⟩=some v)/\W.frozen? ⟨q,0,none⟩=false/\B<=q/\SwC (W.setCell ⟨q,0,none⟩ (.int .i64 4294967296)) B sb tb O vb (root+1) ((stK ns (root+1) (root+1)).set root ((ndN ns (root:Int)).D,[4294967296])) gv:=by
 obtain ⟨xs,M,V⟩:=h.hg;obtain ⟨s,u,a1,a2,a3,J⟩:=V.2 root _ (p_N ns (root+1) (root+1) root (by omega) (by omega));have e1:(nou ns root).2 = [0]:=by unfold nou;rw [h1];rfl
 rw [e1] at J;obtain ⟨q,c,rfl,hq⟩:=J.at (by simp)
 have hc:=a_Y (i:=root*2+1) M (by simpa using a2);obtain ⟨c1,c2⟩:=J.cell rfl 0 (by simp);obtain ⟨cs,fz,E⟩:=J.obj
 have aa:fz=(0,0):=by
  rcases J.2 with ⟨H,_⟩|⟨g',R,U,H,_,h3,_⟩
  ·cases H
  ·cases H;rw [E] at h3;cases h3;rfl
 subst aa;have st:Stay q W (W.setCell ⟨q,0,none⟩ (.int .i64 4294967296)):=(Stay.refl q W).set 0 _;refine ⟨q,c,hc.1,⟨_,c1⟩,c2,hq,?_⟩;have nq:∀ {b:Nat} {cs:Array Value} {e:TypeId},W.heap[b]?=some (Obj.cells cs e (0,0))->e≠48->(W.setCell ⟨q,0,none⟩ (.int .i64 4294967296)).heap[b]?=W.heap[b]?:=fun hb he=>a_X _ _ _ _ _ (d_p hb E he);refine ⟨(nq h.hs (by decide)).trans h.hs,⟨xs,(nq M (by decide)).trans M,by simp [V.1],fun i t I=>?_⟩,(nq h.hv (by decide)).trans h.hv,h.bs,by rw [List.length_set];exact h.ll,h.lv⟩;rw [List.getElem?_set] at I;by_cases e:root=i
 ·subst e;rw [if_pos rfl,if_pos (by rw [h_s];omega)] at I;cases I;refine ⟨s,_,a1,a2,a3.stay st (a3.off_type E (by decide)),?_⟩;exact J.store rfl 0 4294967296
 ·rw [if_neg e] at I;obtain ⟨s',u',b1,b2,b3,b4⟩:=V.2 i t I;have ab:i < root+1:=by have:=(List.getElem?_eq_some_iff.1 I).1;rw [h_s] at this;exact this
  refine ⟨s',u',b1,b2,b3.stay st (b3.off_type E (by decide)),b4.stay st ?_⟩;intro ad n' c' eu L;subst eu;have:=hl i _ _ (by omega) (a_Y (i:=i*2+1) M (by simpa using b2)).1 (by simpa using hc.1) q rfl;rcases b4.2 with ⟨H,_⟩|⟨g',R,U,H,_⟩
  ·cases H
  ·cases H;simp only [] at L;subst L;exact this rfl
theorem s_I (ns:List Nd) (root:Nat):(sw0 ns root).1=(stK ns (root+1) (root+1)).set root ((ndN ns (root:Int)).D,[4294967296])/\(sw0 ns root).2=(List.replicate (root+1) false).set root true:=by
 rw [p_a];exact ⟨rfl,rfl⟩
theorem k_8 (B0 tb:Nat) (ns:List Nd) (hG:NodesG ns) (root:Nat) (hr:root < ns.length) (hl:ns.length<=512) (h1:(ndN ns (root:Int)).X.length=1) (w:World) (hT:TapC w B0 tb ns):
  Calls Tryz.prog 41 #[.pointer (some ⟨tb,0,none⟩),.int .i64 (root:Int)] w fun e w'=>∃ sb E I,e = .returned (.tuple #[.pointer (some ⟨sb,0,none⟩),.int .i64 0])/\SwC w' w.heap.size sb tb E I (root+1) (sw0 ns root).1 (sw0 ns root).2/\Below w.heap.size w w':=by
 have eN:((root:Int)+1)=((root+1:Nat):Int):=by omega
 obtain ⟨N,hN⟩:∃ N,root+1=N:=⟨_,rfl⟩
 rw [hN] at eN;have a6:N<=512:=by omega
 have aY:(N:Int)<=512:=by omega
 have aC:∀ W,(Instr.makeSlice 73 (.int .i64 (N:Int)) (.int .i64 (N:Int))).run Tryz.prog W = .ok (.slice (some ⟨W.heap.size,0,none⟩) N N) (W.alloc (.cells (List.replicate (N*2) (.slice none 0 0)).toArray 77)):=fun W=>p_M (z:=.agg #[.slice none 0 0,.slice none 0 0]) (b:=48) Tryz.underlying73 (by kernel_rfl) (by decide) (by decide) (fun i hi=>by
  have av:i < 2:=hi
  match i,av with
  | 0,_=>rfl
  | 1,_=>rfl) N (by omega) W
 have aD:∀ W,(Instr.makeSlice 103 (.int .i64 (N:Int)) (.int .i64 (N:Int))).run Tryz.prog W = .ok (.slice (some ⟨W.heap.size,0,none⟩) N N) (W.alloc (.cells (List.replicate N (.bool false)).toArray 4)):=fun W=>by
  have:=p_M (P:=Tryz.prog) (z:=.bool false) (v:=.bool false) (sz:=1) (b:=1) Tryz.underlying103 (by kernel_rfl) (by decide) (by decide) (fun i hi=>by
   have av:i < 1:=hi
   match i,av with
   | 0,_=>rfl) N (by omega) W
  rw [Nat.mul_one] at this;exact this
 have cV:Hid (∀ (i:Nat) W,i < N->Below w.heap.size w W->Calls Tryz.prog 26 #[.pointer (some ⟨tb,0,none⟩),.int .i64 (i:Int)] W fun e w'=>∃ v,e = .returned (.tuple #[v,.bool true])/\TRes w' W.heap.size v (ndN ns (i:Int)).D (ndN ns (i:Int)).X/\Below W.heap.size W w'):=fun i W hi hW=>b_9 B0 tb ns hG i _ (c_U (by omega)) W (hT.up hW)
 have cN:Hid (∀ (i:Nat) W v,i < N->Nums .i64 W v (ndN ns (i:Int)).D->Calls Tryz.prog 57 #[v,.int .i64 0] W fun e w'=>∃ v',e = .returned (.tuple #[v',.int .i64 0])/\TRes w' W.heap.size v' (nou ns i).1 (nou ns i).2/\Below W.heap.size W w'):=fun i W v hi hn=>by
  have gi:c_u (ndN ns (i:Int)).D (ndN ns (i:Int)).X:=hG _ (f_P (c_U (by omega)));have:=c_Q v _ gi.2.1 0 W hn;rw [show l_9 (ndN ns (i:Int)).D=0 from if_pos gi.1.1,show d_Y (ndN ns (i:Int)).D=(nou ns i).1 from if_pos gi.1.1,show m_a (ndN ns (i:Int)).D 0=(nou ns i).2 from (if_pos gi.1.1).trans (by unfold nou;rw [gi.1.2])] at this;exact this
 have H1:Hid ((ndN ns (root:Int)).X.length=1/\root+1=N):=⟨h1,hN⟩
 have e0:=s_I ns root;rw [e0.1,e0.2,hN];have a7:root < N:=by omega
 have aZ:(root:Int) < (N:Int):=by omega
 haveI:Nonempty World:=⟨w⟩
 clear e0 h1 hT hG hr hl hN;go_enter Tryz.func41,Tryz.ntmps41;go_wp2_with fail
 refine rel [⟨3,15,MadeC 77 N (N*2) (.slice none 0 0) w.heap.size⟩,⟨6,18,MadeC 4 N N (.bool false) w.heap.size⟩] 7 68 (by kernel_rfl) rfl rfl (by kernel_rfl) (by rfl) ?_ ?_
 ·intro e he v W W' h hb;simp only [List.mem_cons,List.not_mem_nil,or_false] at he;rcases he with rfl|rfl
  ·exact MadeC.up h hb
  ·exact MadeC.up h hb
 apply Exists.intro;refine ⟨fun x=>?_,?_,?_⟩
 ·simp only [List.take_succ_cons,List.take_zero]
  iterate 3
   refine a_l rfl rfl ?_;apply Exists.intro;refine ⟨fun F hF hf K hK=>?_,?_⟩
   ·have hFc:=hF.cell;have hFf:=hF.frozen
    go_big_quiet_op
    first|exact hK|(apply Exists.intro;refine ⟨fun _=>?_,?_⟩;(· fail);exact hK)
   (try simp only [Act.put,sA_,sB_,sC_])
  refine a_q rfl rfl ?_ ?_
  ·intro F hF hf d;have hFc:=hF.cell;have hFf:=hF.frozen;simp [a_k,a_f,go_sem,aC];exact ⟨⟨(F d).heap.size,rfl,heap_alloc_new _ _,(hF.below d).size⟩,a_b _ _⟩
  iterate 2
   (try simp only [Act.put,sA_,sB_,sC_])
   refine a_l rfl rfl ?_;apply Exists.intro;refine ⟨fun F hF hf K hK=>?_,?_⟩
   ·have hFc:=hF.cell;have hFf:=hF.frozen
    go_big_quiet_op
    first|exact hK|(apply Exists.intro;refine ⟨fun _=>?_,?_⟩;(· fail);exact hK)
  (try simp only [Act.put,sA_,sB_,sC_])
  refine a_q rfl rfl ?_ ?_
  ·intro F hF hf d;have hFc:=hF.cell;have hFf:=hF.frozen;simp [a_k,a_f,go_sem,aD];exact ⟨⟨(F d).heap.size,rfl,heap_alloc_new _ _,(hF.below d).size⟩,a_b _ _⟩
  (try simp only [Act.put,sA_,sB_,sC_])
  refine b_c ?_;exact rfl
 ·intro x;simp only [b_l,List.foldl_cons,List.foldl_nil,Act.put,sA_,sB_,sC_]
 intro z1 xs aM hf;simp only [List.drop_succ_cons,List.drop_zero];obtain ⟨E,ea,aE,aI⟩:=hf _ List.mem_cons_self;obtain ⟨I,eb,aN,V⟩:=hf _ (List.mem_cons_of_mem _ List.mem_cons_self);simp only [] at ea eb;simp only [ea,eb];have ao:Hid ((z1.heap[E]?=some (.cells (List.replicate (N*2) (.slice none 0 0)).toArray 77 (0,0))/\z1.heap[I]?=some (.cells (List.replicate N (.bool false)).toArray 4 (0,0)))/\w.heap.size<=E/\w.heap.size<=I/\Below w.heap.size w z1):=⟨⟨aE,aN⟩,aI,V,aM⟩
 clear hf ea eb aE aN aI V aM aC aD;go_wp2_with fail
 generalize ak:World.alloc _ _=W0;obtain ⟨sb,ag⟩:∃ b,z1.heap.size=b:=⟨_,rfl⟩
 have an:W0.heap[z1.heap.size]?=some (.cells #[.pointer (some ⟨tb,0,none⟩),.slice (some ⟨E,0,none⟩) N N,.slice (some ⟨I,0,none⟩) N N] 105 (0,0)):=by rw [<- ak];exact heap_alloc_new _ _
 have af:Below z1.heap.size z1 W0:=by rw [<- ak];exact a_b _ _
 have aR:Hid (SwC W0 w.heap.size sb tb E I N (stK ns N 0) (List.replicate N false)):=by
  rw [ag] at an;have q:=ao.out;exact SwC.fresh ns an ((af.block _ (a_i q.1.1)).trans q.1.1) ((af.block _ (a_i q.1.2)).trans q.1.2) ⟨by rw [<- ag];exact q.2.2.2.size,q.2.1,q.2.2.1⟩
 have aU:Hid (Below w.heap.size w W0):=a_c ao.out.2.2.2 af;rw [ag];clear ak an af ao ag
 go_loopg [26] N (fun gg i wr=>∃ (k:Nat),k<=N/\gg=N - k/\i = .int .i64 (k:Int)/\Hid (SwC wr w.heap.size sb tb E I N (stK ns N k) (List.replicate N false))/\Hid (Below w.heap.size w wr/\s_T wr E k))
 case atStart=>exact ⟨0,by omega,by omega,by first|rfl|simp,aR.out,aU.out,fun i u v hi=>absurd hi (by omega)⟩
 case round=>
  obtain ⟨k,hk,a5,rfl,HS,J⟩:=hrel;obtain ⟨H,aS⟩:∃ H:World,H=wr:=⟨_,rfl⟩
  subst aS;by_cases ad:k < N
  ·have a0:(k:Int) < (N:Int):=by omega
   go_wp2_with fail
   refine (cV.out k H ad J.out.1).mono ?_;rintro e w1 ⟨v1,rfl,⟨s1,t1,rfl,ar,aJ⟩,aG⟩;obtain ⟨p1,n1,c1,rfl⟩:=ar.form_;obtain ⟨q1,m1,e1,rfl⟩:=aJ.form_;have ax:Hid (Nums .i64 w1 (.slice p1 n1 c1) (ndN ns (k:Int)).D/\Below H.heap.size H w1):=⟨ar.nums,aG⟩
   clear ar aJ aG;go_wp2_with fail
   generalize aK:World.alloc _ _=W2;have B2:Below w1.heap.size w1 W2:=by rw [<- aK];exact a_b _ _
   have ab:Hid (Below H.heap.size H W2):=a_c ax.out.2 B2;have aL:Hid (Nums .i64 W2 (.slice p1 n1 c1) (ndN ns (k:Int)).D):=ax.out.1.up B2;clear aK B2 ax;refine (cN.out k W2 _ ad aL.out).mono ?_;rintro e w3 ⟨v3,rfl,⟨s3,t3,rfl,am,ae⟩,aH⟩;obtain ⟨p3,n3,c3,rfl⟩:=am.form_;obtain ⟨O,R,M,rfl⟩:=ae.form_;have aO:∀ j,(Value.slice O R M).ownBlock=some j->H.heap.size<=j:=fun j hj=>Nat.le_trans ab.out.size (ae.block j hj);have aF:Hid (Below H.heap.size H w3):=a_c ab.out aH;have ah:Hid (OwnK .i64 3 w3 H.heap.size (.slice p3 n3 c3) (nou ns k).1/\OwnK .i64 48 w3 H.heap.size (.slice O R M) (nou ns k).2/\∀ j,(Value.slice O R M).ownBlock=some j->H.heap.size<=j):=⟨am.low ab.out.size,ae.low ab.out.size,aO⟩
   clear am ae aH ab aL aO;go_wp2_with fail
   generalize aj:World.alloc _ _=W4;have B4:Below w3.heap.size w3 W4:=by rw [<- aj];exact a_b _ _
   have X4:Cel W4 w3.heap.size (.slice p3 n3 c3) (.slice O R M):=(a_F aj (by simp [go_sem])).out;have au:Hid (Below H.heap.size H W4):=a_c aF.out B4;have aw:Hid (OwnK .i64 3 W4 H.heap.size (.slice p3 n3 c3) (nou ns k).1/\OwnK .i64 48 W4 H.heap.size (.slice O R M) (nou ns k).2/\∀ j,(Value.slice O R M).ownBlock=some j->H.heap.size<=j):=⟨ah.out.1.up B4,ah.out.2.1.up B4,ah.out.2.2⟩
   have L:=HS.out.up au.out;obtain ⟨b0,b1,b2⟩:=L.tape;obtain ⟨aq,ac,aP⟩:=L.hg;have aA:=aP.1;have az:=L.ll;obtain ⟨va,i0,i1⟩:∃ va,W4.cell? ⟨E,k*2,none⟩=some va/\W4.frozen? ⟨E,k*2,none⟩=false:=⟨_,a_Y ac (by rw [List.getElem?_toArray];exact List.getElem?_eq_getElem (by omega))⟩
   obtain ⟨vc,i2,i3⟩:∃ va,W4.cell? ⟨E,k*2+1,none⟩=some va/\W4.frozen? ⟨E,k*2+1,none⟩=false:=⟨_,a_Y ac (by rw [List.getElem?_toArray];exact List.getElem?_eq_getElem (by omega))⟩
   have kb:=a_a b1;have kg:=a_a i0;obtain ⟨y0,y1,_,_⟩:=X4;have ky:=a_a y0;have aB:=L.bs;have ap:w.heap.size<=H.heap.size:=J.out.1.size
   have HZ:Hid (SwC ((W4.setCell ⟨E,k*2,none⟩ (.slice p3 n3 c3)).setCell ⟨E,k*2+1,none⟩ (.slice O R M)) w.heap.size sb tb E I N (stK ns N (k+1)) (List.replicate N false)/\Below w.heap.size w ((W4.setCell ⟨E,k*2,none⟩ (.slice p3 n3 c3)).setCell ⟨E,k*2+1,none⟩ (.slice O R M))/\s_T ((W4.setCell ⟨E,k*2,none⟩ (.slice p3 n3 c3)).setCell ⟨E,k*2+1,none⟩ (.slice O R M)) E (k+1)):=by
    have h:=L.set ad (aw.out.1.low ap) (aw.out.2.1.low ap);have aQ:w.heap.size<=E:=aB.2.1;refine ⟨?_,((a_c J.out.1 au.out).setCell (p:=⟨E,k*2,none⟩) aQ _).setCell (p:=⟨E,k*2+1,none⟩) aQ _,fun i u v hi hu hv b hb ay=>?_⟩
    ·rw [<- r_m ns N k ad];exact h
    ·have x1:=a_n (o:=k*2) (x:=.slice p3 n3 c3) ac;have x2:=a_n (o:=k*2+1) (x:=.slice O R M) x1
     have ev:v = .slice O R M:=by
      have:=(a_Y (i:=k*2+1) (v:=.slice O R M) x2 (by rw [Array.getElem?_setIfInBounds,if_pos rfl,if_pos (by simp only [Array.size_setIfInBounds,List.size_toArray];omega)])).1;rw [show (k+1 - 1)*2+1=k*2+1 by omega] at hv;rw [this] at hv;exact (Option.some.inj hv).symm
     have h9:=aw.out.2.2 b (by rw [<- ev];exact hb);obtain ⟨s',u',a1,a2,a3,a4⟩:=(HS.out.hg.choose_spec.2).2 i _ (p_N ns N k i (by omega) (by omega));have aV:H.cell? ⟨E,i*2+1,none⟩=some u':=(a_Y (i:=i*2+1) HS.out.hg.choose_spec.1 (by simpa using a2)).1
     have aX:((W4.setCell ⟨E,k*2,none⟩ (.slice p3 n3 c3)).setCell ⟨E,k*2+1,none⟩ (.slice O R M)).cell? ⟨E,i*2+1,none⟩=W4.cell? ⟨E,i*2+1,none⟩:=by
      have e1:aq.length=N*2:=by rw [aA,az]
      rw [(a_Y (i:=i*2+1) (v:=aq[i*2+1]'(by omega)) x2 (by
       have n1:k*2≠i*2+1:=by omega
       have n2:k*2+1≠i*2+1:=by omega
       rw [Array.getElem?_setIfInBounds,if_neg n2,Array.getElem?_setIfInBounds,if_neg n1,List.getElem?_toArray];exact List.getElem?_eq_getElem (by omega))).1,(a_Y (i:=i*2+1) (v:=aq[i*2+1]'(by omega)) ac (by rw [List.getElem?_toArray];exact List.getElem?_eq_getElem (by omega))).1]
     have eu:u'=u:=by
      rw [aX,a_d aV au.out] at hu;exact Option.some.inj hu
     rw [<- eu] at ay;have:=(World.ownsRow.lt a4 b ay).2;omega
   clear L ac aP aA az aB ap aj B4 aF ah;go_region;generalize hZ:World.drew _=Z
   have aW:Hid (SwC Z w.heap.size sb tb E I N (stK ns N (k+1)) (List.replicate N false)):=by
    have d:∀ {U:World},U.drew=Z->Below U.heap.size U Z:=fun h=>by rw [<- h];exact c_V (Below.refl _ _)
    exact HZ.out.1.up (d hZ)
   have aT:Hid (Below w.heap.size w Z/\s_T Z E (k+1)):=by
    have d:∀ {U:World},U.drew=Z->Below U.heap.size U Z:=fun h=>by rw [<- h];exact c_V (Below.refl _ _)
    refine ⟨a_c HZ.out.2.1 (d hZ),fun i u v hi hu hv=>?_⟩;rw [<- hZ] at hu hv;exact HZ.out.2.2 i u v hi hu hv
   clear hZ HZ;go_wp2;go_roundg (N - (k+1))
   case measure=>omega
   case rel=>exact ⟨k+1,by omega,rfl,by first|rfl|simp,aW,aT⟩
  ·obtain rfl:k=N:=by omega
   have ai:=H1.out.1;obtain rfl:=H1.out.2;obtain ⟨q,c,d0,⟨a8,d1⟩,d2,d3,aa⟩:=HS.out.one J.out.2 ai;obtain ⟨b0,b1,b2⟩:=HS.out.tape;have kb:=a_a b1;have kd:=a_a d0;have kq:=a_a d1;have st:Stay q H (H.setCell ⟨q,0,none⟩ (.int .i64 4294967296)):=(Stay.refl q H).set 0 _;obtain ⟨n0,n1,n2⟩:=aa.tape;obtain ⟨v0,v1⟩:=aa.flag (i:=root) (by omega);have kn:=a_a n0;have kv:=a_a v0;have V:=aa.bs.2.2;have HF:Hid (SwC ((H.setCell ⟨q,0,none⟩ (.int .i64 4294967296)).setCell ⟨I,root,none⟩ (.bool true)) w.heap.size sb tb E I (root+1) ((stK ns (root+1) (root+1)).set root ((ndN ns (root:Int)).D,[4294967296])) ((List.replicate (root+1) false).set root true)/\Below w.heap.size w ((H.setCell ⟨q,0,none⟩ (.int .i64 4294967296)).setCell ⟨I,root,none⟩ (.bool true))):=⟨aa.mark root,(J.out.1.setCell (p:=⟨q,0,none⟩) d3 _).setCell (p:=⟨I,root,none⟩) V _⟩
   clear aa st HS J ai d3 V eN H1;go_wp2;exact bodyPost_ret (v:=.tuple #[.pointer (some ⟨sb,0,none⟩),.int .i64 0]) (by simp [results,Tryz.results41,go_sem]) rfl ⟨sb,E,I,rfl,HF.out⟩
theorem SwC.own {W:World} {B L V E J N:Nat} {l:List Ten} {gv:List Bool} (h:SwC W B L V E J N l gv) (hN:N<=1000):OwnTs W B (.slice (some ⟨E,0,none⟩) N N) l:=by
 obtain ⟨H,M,D⟩:=h.hg;have e:=h.ll;refine ⟨H,?_,D.1,fun i t O=>?_⟩
 ·rw [e];refine ⟨by rw [D.1,e],.inr ⟨E,N,H.toArray,rfl,h.bs.2.1,M,Nat.le_refl _,by unfold maxLen;omega,by simp [D.1,e],by rw [List.take_of_length_le (by simp [D.1,e])]⟩⟩
 ·obtain ⟨s,u,I,R,U,a4⟩:=D.2 i t O;refine ⟨s,u,?_,U,a4⟩;refine List.ext_getElem? fun j=>?_;rw [List.getElem?_take]
  match j with
  | 0=>rw [if_pos (by omega),List.getElem?_drop];exact I
  | 1=>rw [if_pos (by omega),List.getElem?_drop];exact R
  | j+2=>rw [if_neg (by omega)];rfl
theorem k_9 (B H:Nat) (ns:List Nd) (hG:NodesG ns) (hV:NodesV ns) (af:NodesK ns) (hl:ns.length<=512) (root:Int) (w:World) (hT:TapC w B H ns) (ad:Hid (Tz w)):
  Calls Tryz.prog 25 #[.pointer (some ⟨H,0,none⟩),.int .i64 root] w fun e O=>∃ v,e = .returned (.tuple #[v,.int .i64 (swE ns root)])/\OwnTs O w.heap.size v (swL ns root)/\Below w.heap.size w O:=by
 by_cases hn:0<=root/\root < (ns.length:Int);rotate_left
 ·have eE:swE ns root=1:=if_neg hn;have eL:swL ns root = []:=if_neg (by rw [eE];omega);rw [eE,eL];have cV:Hid (Calls Tryz.prog 26 #[.pointer (some ⟨H,0,none⟩),.int .i64 root] w fun e O=>e = .returned (.tuple #[.agg #[.slice none 0 0,.slice none 0 0],.bool false])/\Below w.heap.size w O):=e_2 B H ns root (by omega) w hT;clear hT ad hn eE eL hG hV af hl;go_enter Tryz.func25,Tryz.ntmps25;go_wp2_with fail
  refine cV.out.mono ?_;rintro e w1 ⟨rfl,R⟩;clear cV;go_wp2;exact bodyPost_ret (v:=.tuple #[.slice none 0 0,.int .i64 1]) (by simp [results,Tryz.results25,go_sem]) rfl ⟨_,rfl,OwnTs.nil _ _,a_c R (a_b _ _)⟩
 obtain ⟨r,rfl⟩:∃ r:Nat,root=(r:Int):=⟨root.toNat,by omega⟩
 have V:r < ns.length:=by omega
 have cV:Hid (Calls Tryz.prog 26 #[.pointer (some ⟨H,0,none⟩),.int .i64 (r:Int)] w fun e O=>∃ v,e = .returned (.tuple #[v,.bool true])/\TRes O w.heap.size v (ndN ns (r:Int)).D (ndN ns (r:Int)).X/\Below w.heap.size w O):=b_9 B H ns hG r _ (c_U V) w hT;obtain ⟨L,eL⟩:∃ L,(ndN ns (r:Int)).X.length=L:=⟨_,rfl⟩
 by_cases hL:L=1;rotate_left
 ·have eE:swE ns (r:Int)=4:=(if_pos hn).trans (if_neg (by rw [eL];exact hL));have aa:swL ns (r:Int) = []:=if_neg (by rw [eE];omega);rw [eE,aa];have au:((L:Int)==1)=false:=by simp;omega
  have HL:Hid ((ndN ns (r:Int)).X.length=L):=eL;clear hT ad hn eE aa hG hV af hl V eL hL;go_enter Tryz.func25,Tryz.ntmps25;go_wp2_with fail
  refine cV.out.mono ?_;rintro e w1 ⟨v1,rfl,⟨s1,t1,rfl,ab,ac⟩,R⟩;obtain ⟨p1,n1,c1,rfl⟩:=ab.form_;obtain ⟨q1,e1,rfl,_⟩:=ac.nums.view;rw [HL.out];clear cV ab ac;go_wp2;exact bodyPost_ret (v:=.tuple #[.slice none 0 0,.int .i64 4]) (by simp [results,Tryz.results25,go_sem]) rfl ⟨_,rfl,OwnTs.nil _ _,a_c R (a_b _ _)⟩
 subst hL;have eE:swE ns (r:Int)=0:=(if_pos hn).trans (if_pos eL);have aa:swL ns (r:Int)=(swK ns r (r+1)).1:=if_pos eE;rw [eE,aa];have HL:Hid ((ndN ns (r:Int)).X.length=1/\r < 512):=⟨eL,by omega⟩
 have cS:Hid (∀ W,Below w.heap.size w W->Calls Tryz.prog 41 #[.pointer (some ⟨H,0,none⟩),.int .i64 (r:Int)] W fun e O=>∃ J U vb,e = .returned (.tuple #[.pointer (some ⟨J,0,none⟩),.int .i64 0])/\SwC O W.heap.size J H U vb (r+1) (sw0 ns r).1 (sw0 ns r).2/\Below W.heap.size W O):=fun W hW=>k_8 B H ns hG r V hl eL W (hT.up hW)
 have cP:Hid (∀ (k i J U vb I:Nat) W,k<=r->i=r - k->I<=W.heap.size->Below w.heap.size w W->SwC W I J H U vb (r+1) (swK ns r k).1 (swK ns r k).2->Calls Tryz.prog 42 #[.pointer (some ⟨J,0,none⟩),.int .i64 (i:Int)] W fun e O=>e = .returned (.int .i64 0)/\SwC O I J H U vb (r+1) (swK ns r (k+1)).1 (swK ns r (k+1)).2/\Below I W O):=fun k i J U vb I W hk hi hB hW hS=>by
  subst hi;exact n_s I B H ns hG hV af r (r - k) V (by omega) (swK ns r k) (q_R hG hV V eL k) J U vb W (hT.up hW) (Hid.up_tz ad hW) hS hB
 have ar:(r:Int) < 512:=by omega
 haveI:Nonempty World:=⟨w⟩
 clear hT ad hn eE aa hG hV af hl V eL;go_enter Tryz.func25,Tryz.ntmps25;go_wp2_with fail
 refine cV.out.mono ?_;rintro e w1 ⟨v1,rfl,⟨s1,t1,rfl,ab,ac⟩,R⟩;obtain ⟨p1,n1,c1,rfl⟩:=ab.form_;obtain ⟨q1,e1,rfl,_⟩:=ac.nums.view;rw [HL.out.1];have an:Hid (Below w.heap.size w w1):=R;clear cV ab ac R;go_wp2_with fail
 generalize ai:World.alloc _ _=W2
 have ae:Hid (Below w.heap.size w W2):=by
  show Below _ _ _;rw [<- ai];exact a_c an.out (a_b _ _)
 clear ai an;refine (cS.out W2 ae.out).mono ?_;rintro e w3 ⟨J,U,vb,rfl,am,ah⟩;have M:Hid (SwC w3 W2.heap.size J H U vb (r+1) (swK ns r 0).1 (swK ns r 0).2/\Below w.heap.size w w3/\W2.heap.size<=w3.heap.size/\w.heap.size<=W2.heap.size):=⟨am,a_c ae.out ah,ah.size,ae.out.size⟩
 obtain ⟨I,ak⟩:∃ I,W2.heap.size=I:=⟨_,rfl⟩
 rw [ak] at M;clear am ah ae ak cS;go_wp2_with fail
 go_loopg [10] (r+1) (fun gg i wr=>∃ (k:Nat),k<=r+1/\gg=r+1 - k/\i = .int .i64 ((r:Int) - (k:Int))/\Hid (SwC wr I J H U vb (r+1) (swK ns r k).1 (swK ns r k).2)/\Hid (Below w.heap.size w wr/\I<=wr.heap.size))
 case atStart=>exact ⟨0,by omega,by omega,by first|rfl|simp,M.out.1,M.out.2.1,M.out.2.2.1⟩
 case round=>
  obtain ⟨k,hk,av,rfl,HS,E⟩:=hrel;obtain ⟨R1,ap⟩:∃ R1:World,R1=wr:=⟨_,rfl⟩
  subst ap;by_cases aq:k < r+1
  ·obtain ⟨i,ei⟩:∃ i:Nat,(r:Int) - (k:Int)=(i:Int):=⟨r - k,by omega⟩
   rw [ei];have aw:(i:Int) < 512:=by omega
   have ao:Hid (i=r - k):=by show _=_;omega
   have HE:Hid ((i:Int) - 1=(r:Int) - ((k+1:Nat):Int)):=by show _=_;omega
   clear ei;go_wp2_with fail
   refine (cP.out k i J U vb I R1 (by omega) ao.out E.out.2 E.out.1 HS.out).mono ?_;rintro e w4 ⟨rfl,aj,ag⟩;have H4:Hid (SwC w4 I J H U vb (r+1) (swK ns r (k+1)).1 (swK ns r (k+1)).2):=aj;have H5:Hid (Below w.heap.size w w4/\I<=w4.heap.size):=⟨E.out.1.trans (ag.mono M.out.2.2.2),Nat.le_trans E.out.2 ag.size⟩
   clear aj ag HS E;go_wp2;go_roundg (r+1 - (k+1))
   case measure=>omega
   case rel=>exact ⟨k+1,by omega,rfl,by rw [<- HE.out],H4,H5⟩
  ·obtain rfl:k=r+1:=by omega
   have ei:(r:Int) - ((r+1:Nat):Int) = -1:=by omega
   rw [ei];obtain ⟨b0,b1,b2⟩:=HS.out.tape;have kb:=a_a b0;have HF:Hid (OwnTs R1 w.heap.size (.slice (some ⟨U,0,none⟩) (r+1) (r+1)) (swK ns r (r+1)).1/\Below w.heap.size w R1):=⟨(HS.out.own (by have:=HL.out.2;omega)).low M.out.2.2.2,E.out.1⟩
   clear HS E ei;go_wp2;exact bodyPost_ret (v:=.tuple #[.slice (some ⟨U,0,none⟩) (r+1) (r+1),.int .i64 0]) (by simp [results,Tryz.results25,go_sem]) rfl ⟨_,rfl,HF.out⟩
theorem l_a (B L:Nat) (ns:List Nd) (hG:NodesG ns) (hl:ns.length<=512) (k o cl:Int) (hk:1<=k/\k<=3) (px p:Option Addr) (nx cx n c:Nat) (y:List Int) (hy:RI y) (w:World) (hT:TapC w B L ns) (ac:Hid (∀ W,Below B w W->Tz W)) (h:KeptL B w (.slice p n c) y):
  Calls Tryz.prog 24 #[.pointer (some ⟨L,0,none⟩),.int .i64 o,.int .i64 k,.agg #[.slice px nx cx,.slice p n c,.int .i64 cl]] w fun e J=>e = .returned (.tuple #[.int .i64 (gkR k o cl ns y),.int .i64 (gkE k o cl ns y)])/\TapC J B L (gkN k o cl ns y)/\Below B w J/\Only SC w J/\Spar2 L w J:=by
 haveI:Nonempty World:=⟨w⟩
 have HZ:Hid (B<=w.heap.size):=by
  obtain ⟨hb,_,_,hv,_⟩:=hT;exact Nat.le_trans hb (Nat.le_of_lt (a_i hv))
 have c1:Hid (k=1->∀ W,Below w.heap.size w W->Calls Tryz.prog 38 #[.pointer (some ⟨L,0,none⟩),.int .i64 o,.slice p n c] W fun e J=>e = .returned (.tuple #[.int .i64 (gkR k o cl ns y),.int .i64 (gkE k o cl ns y)])/\TapC J B L (gkN k o cl ns y)/\Below B W J/\Only SC W J/\Spar2 L W J):=fun e W V=>by
  have:=j_l B L ns hG hl o p n c y hy W (hT.up V) (show Hid _ from fun W' ab=>ac.out W' ((V.mono HZ.out).trans ab)) (h.up (V.mono HZ.out) (Only.of V));subst e;exact this
 have c2:Hid (k=2->∀ W,Below w.heap.size w W->Calls Tryz.prog 39 #[.pointer (some ⟨L,0,none⟩),.int .i64 o,.slice p n c] W fun e J=>e = .returned (.tuple #[.int .i64 (gkR k o cl ns y),.int .i64 (gkE k o cl ns y)])/\TapC J B L (gkN k o cl ns y)/\Below B W J/\Only SC W J/\Spar2 L W J):=fun e W V=>by
  have:=n_q B L ns hG hl o p n c y hy W (hT.up V) (show Hid _ from fun W' ab=>ac.out W' ((V.mono HZ.out).trans ab)) (h.up (V.mono HZ.out) (Only.of V));subst e;exact this
 have c3:Hid (k=3->∀ W,Below w.heap.size w W->Calls Tryz.prog 40 #[.pointer (some ⟨L,0,none⟩),.int .i64 o,.int .i64 cl] W fun e J=>e = .returned (.tuple #[.int .i64 (gkR k o cl ns y),.int .i64 (gkE k o cl ns y)])/\TapC J B L (gkN k o cl ns y)/\Below B W J/\Only SC W J/\Spar2 L W J):=fun e W V=>by
  have:=k_7 B L ns hG hl o cl W (hT.up V) (show Hid _ from fun W' ab=>ac.out W' ((V.mono HZ.out).trans ab));subst e;exact this
 obtain ⟨R,eR⟩:∃ R,gkR k o cl ns y=R:=⟨_,rfl⟩
 obtain ⟨E,eE⟩:∃ R,gkE k o cl ns y=R:=⟨_,rfl⟩
 obtain ⟨NS,eN⟩:∃ R,gkN k o cl ns y=R:=⟨_,rfl⟩
 rw [eR,eE,eN] at c1 c2 c3 ⊢;clear eR eE eN hT ac h hy hG hl;go_enter Tryz.func24,Tryz.ntmps24;have aa:Hid (∀ W J,Below w.heap.size w W->(TapC J B L NS/\Below B W J/\Only SC W J/\Spar2 L W J)->TapC J B L NS/\Below B w J/\Only SC w J/\Spar2 L w J):=fun W J V h=>⟨h.1,(V.mono HZ.out).trans h.2.1,(Only.of V).trans h.2.2.1,Spar2.trans (Spar2.of V) h.2.2.2 V.size⟩
 rcases (by omega:k=1∨k=2∨k=3) with e1|e2|e3
 ·subst e1;go_wp2_with fail
  generalize O:World.alloc _ _=U;have M:Hid (Below w.heap.size w U):=by rw [<- O];exact a_b w _
  obtain ⟨g0,g1,g2⟩:U.cell? ⟨w.heap.size,0,none⟩=some (.slice px nx cx)/\U.cell? ⟨w.heap.size,1,none⟩=some (.slice p n c)/\U.cell? ⟨w.heap.size,2,none⟩=some (.int .i64 cl):=by rw [<- O];simp [go_sem]
  have kg:=a_g g0;clear O;go_wp2_with fail
  refine (c1.out (by first|rfl|trivial) U M.out).mono ?_;rintro e w5 ⟨rfl,h5⟩;have HF:Hid (TapC w5 B L NS/\Below B w w5/\Only SC w w5/\Spar2 L w w5):=aa.out U w5 M.out h5;clear h5 g0 g1 g2 kg c1 c2 c3 M aa;go_wp2;go_ret2;exact ⟨rfl,HF.out⟩
 ·subst e2;go_wp2_with fail
  generalize O:World.alloc _ _=U;have M:Hid (Below w.heap.size w U):=by rw [<- O];exact a_b w _
  obtain ⟨g0,g1,g2⟩:U.cell? ⟨w.heap.size,0,none⟩=some (.slice px nx cx)/\U.cell? ⟨w.heap.size,1,none⟩=some (.slice p n c)/\U.cell? ⟨w.heap.size,2,none⟩=some (.int .i64 cl):=by rw [<- O];simp [go_sem]
  have kg:=a_g g0;clear O;go_wp2_with fail
  refine (c2.out (by first|rfl|trivial) U M.out).mono ?_;rintro e w5 ⟨rfl,h5⟩;have HF:Hid (TapC w5 B L NS/\Below B w w5/\Only SC w w5/\Spar2 L w w5):=aa.out U w5 M.out h5;clear h5 g0 g1 g2 kg c1 c2 c3 M aa;go_wp2;go_ret2;exact ⟨rfl,HF.out⟩
 ·subst e3;go_wp2_with fail
  generalize O:World.alloc _ _=U;have M:Hid (Below w.heap.size w U):=by rw [<- O];exact a_b w _
  obtain ⟨g0,g1,g2⟩:U.cell? ⟨w.heap.size,0,none⟩=some (.slice px nx cx)/\U.cell? ⟨w.heap.size,1,none⟩=some (.slice p n c)/\U.cell? ⟨w.heap.size,2,none⟩=some (.int .i64 cl):=by rw [<- O];simp [go_sem]
  have kg:=a_g g0;clear O;go_wp2_with fail
  refine (c3.out (by first|rfl|trivial) U M.out).mono ?_;rintro e w5 ⟨rfl,h5⟩;have HF:Hid (TapC w5 B L NS/\Below B w w5/\Only SC w w5/\Spar2 L w w5):=aa.out U w5 M.out h5;clear h5 g0 g1 g2 kg c1 c2 c3 M aa;go_wp2;go_ret2;exact ⟨rfl,HF.out⟩
theorem k_r (G:List Ten) (a b:List Int):d_L G (a++b)=d_L G a++d_L G b:=by
 unfold d_L;rw [List.flatMap_append]
theorem n_t {G:List Ten} {ps:List Int} {j:Nat} (D:j < ps.length):d_L G (ps.take (j+1))=d_L G (ps.take j)++(G.getD (ps.getD j 0).toNat noT).2:=by
 rw [List.take_add_one,List.getElem?_eq_getElem D,k_r]
 congr 1
 rw [List.getD_eq_getElem?_getD (l:=ps),List.getElem?_eq_getElem D];simp [d_L]
theorem r_n {G:List Ten} {ps:List Int} (j:Nat):(d_L G (ps.take j)).length<=(d_L G ps).length:=by
 have h:=List.take_append_drop j ps;have:=k_r G (ps.take j) (ps.drop j);rw [h] at this;rw [this,List.length_append];omega
/-- A row of one's own, as a told thing. -/
def OwnF (B:Nat) (l:List Int) (v:Value) (W:World):Prop:=OwnK .i64 48 W B v l
theorem OwnF.up {B:Nat} {l:List Int} {v:Value} {W W':World} (h:OwnF B l v W) (D:Below W.heap.size W W'):OwnF B l v W':=OwnK.up h D
theorem l_b (k:Int) (w:World):Calls Tryz.prog 21 #[.int .i64 k] w fun e I=>e = .returned (.bool (decide (1<=k/\k<=3)))/\I=w:=by
 by_cases E:1<=k
 ·by_cases D:k<=3
  ·rw [decide_eq_true (show 1<=k/\k<=3 from ⟨E,D⟩)];go_enter Tryz.func21,Tryz.ntmps21;go_wp2;go_ret;exact ⟨rfl,rfl⟩
  ·rw [decide_eq_false (show ¬ (1<=k/\k<=3) from fun h=>D h.2)];have H:3 < k:=by omega
   go_enter Tryz.func21,Tryz.ntmps21;go_wp2;go_ret;exact ⟨rfl,rfl⟩
 ·rw [decide_eq_false (show ¬ (1<=k/\k<=3) from fun h=>E h.1)];have H:k < 1:=by omega
  go_enter Tryz.func21,Tryz.ntmps21;go_wp2;go_ret;exact ⟨rfl,rfl⟩
theorem n_u (B N E:Nat) (L:List Ten) (D:List Int) (p4 p5:Option Addr) (c4 c5:Nat) (hN:L.length=N) (ai:N<=513) (hm:D.length=E) (aj:E<=512) (hb:∀ i,i∈D->0<=i/\i < (N:Int)) (hg:(d_L L D).length<=1048576) (w:World) (h1:OwnTs w B (.slice p4 N c4) L) (h2:Nums .i64 w (.slice p5 E c5) D):
  Calls Tryz.prog 27 #[.slice p4 N c4,.slice p5 E c5] w fun e w'=>∃ v,e = .returned v/\OwnK .i64 48 w' w.heap.size v (d_L L D)/\Below w.heap.size w w':=by
 haveI:Nonempty World:=⟨w⟩
 have R:Hid (OwnTs w B (.slice p4 N c4) L/\Nums .i64 w (.slice p5 E c5) D/\L.length=N/\(d_L L D).length<=1048576/\D.length=E/\∀ i,i∈D->0<=i/\i < (N:Int)):=⟨h1,h2,hN,hg,hm,hb⟩
 clear h1 h2 hN hg hm hb;have H0:Hid (OwnK .i64 48 w w.heap.size (.slice none 0 0) (d_L L (D.take 0))):=OwnK.nil _ _ _ _;go_enter Tryz.func27,Tryz.ntmps27;go_wp2_with fail
 go_loopg [5,10] E (fun gg rv i wr=>∃ (j:Nat),j<=E/\gg=E - j/\i = .int .i64 (j:Int)/\Hid (OwnK .i64 48 wr w.heap.size rv (d_L L (D.take j)))/\Hid (Below w.heap.size w wr))
 case atStart=>exact ⟨0,by omega,by omega,by first|rfl|simp,H0,Below.refl _ _⟩
 case round=>
  obtain ⟨j,hj,hg,rfl,HR,I⟩:=hrel;by_cases O:j < E
  ·have ag:(j:Int) < (E:Int):=by omega
   have ah:(j:Int) < 512:=by omega
   obtain ⟨_,_,_,e9,U⟩:=(R.out.2.1.up I.out).lst;cases e9;obtain ⟨q,o,rfl,hc⟩:=U.out.2 j O;obtain ⟨x,ex⟩:∃ x,D.getD j 0=x:=⟨_,rfl⟩
   rw [ex] at hc;have H:=R.out.2.2.2.2.1
   have aa:x∈D:=by
    rw [<- ex,List.getD_eq_getElem?_getD,List.getElem?_eq_getElem (by rw [H];exact O)];exact List.getElem_mem _
   obtain ⟨ac,af⟩:=R.out.2.2.2.2.2 x aa;obtain ⟨J,ad⟩:=Int.eq_ofNat_of_zero_le ac;subst ad;have ab:J < L.length:=by rw [R.out.2.2.1];omega
   have hi:L[J]?=some (L.getD J noT):=by rw [List.getD_eq_getElem?_getD,List.getElem?_eq_getElem ab];rfl
   obtain ⟨q4,s4,u4,ep,y0,y1,_,hu⟩:=(R.out.1.up I.out).at J _ hi;subst ep;obtain ⟨pu,nu,cu,eu⟩:=hu.form_;subst eu
   have eg:d_L L (D.take (j+1))=d_L L (D.take j)++(L.getD J noT).2:=by
    rw [n_t (by rw [H];exact O),ex,Int.toNat_natCast]
   have M:(d_L L (D.take j)).length+(L.getD J noT).2.length<=1073741824:=by
    have:=r_n (G:=L) (ps:=D) (j+1);rw [eg,List.length_append] at this;have:=R.out.2.2.2.1;omega
   have HX:Hid (d_L L (D.take (j+1))=d_L L (D.take j)++(L.getD J noT).2/\Nums .i64 wr (.slice pu nu cu) (L.getD J noT).2/\(d_L L (D.take j)).length+(L.getD J noT).2.length<=1073741824):=⟨eg,hu.nums,M⟩
   have k0:=a_g hc;have k1:=a_g y0;clear eg M hu U hi ex aa H;go_wp2_with (at_builtin;refine a_E k_C (by decide) rfl (.tmp 14) (.tmp 19) rfl w.heap.size _ _ rfl HR.out _ _ rfl HX.out.2.1 HX.out.2.2 I.out.size w I.out ?_;intro v6 w6 H6 B6)
   have V:Hid (OwnK .i64 48 w6 w.heap.size v6 (d_L L (D.take (j+1)))/\Below w.heap.size w w6):=⟨by rw [HX.out.1];exact H6.out,B6⟩
   clear H6 B6 HX;go_wp2;go_roundg (E - (j+1))
   case measure=>omega
   case rel=>exact ⟨j+1,by omega,rfl,by first|rfl|simp,V.out.1,V.out.2⟩
  ·obtain rfl:j=E:=by omega
   have ae:Hid (OwnK .i64 48 wr w.heap.size u5 (d_L L D)):=by
    have:=HR.out;rw [<- R.out.2.2.2.2.1,List.take_length] at this;exact this
   clear HR;go_wp2;exact bodyPost_ret (v:=u5) (by simp [results,Tryz.results27,go_sem]) rfl ⟨_,rfl,ae.out,I.out⟩
theorem s_J (d:List Int) (ls:List Ly) (k:Int) (P X y:List Int) (cl:Int) (ao:nE d ls=0->∀ st,st∈(plF d ls (nS d ls) P X ls.length).1->st.op≠1->RkC st.op) (aL:nE d ls=0->∀ st,st∈(plF d ls (nS d ls) P X ls.length).1->st.op≠1->GvC st.op) (p p2 pp px py:Option Addr) (n c n2 c2 np cp nx cx ny cy:Nat) (ay:n2<=1073741823) (aY:np<=1048576) (w:World) (hT:Hid (Tz w)) (hK:Hid (Kz w)) (ar:Nums .i64 w (.slice p n c) d) (aq:LyR 0 w p2 n2 ls) (hp:RowI w pp np cp P) (hx:RowI w px nx cx X) (hy:RowI w py ny cy y):
  Calls Tryz.prog 13 #[.agg #[.slice p n c,.slice p2 n2 c2],.int .i64 k,.slice pp np cp,.agg #[.slice px nx cx,.slice py ny cy,.int .i64 cl]] w fun e w'=>∃ v,e = .returned (.tuple #[v,.int .i64 (gof d ls k P X y cl).2.2,.int .i64 (gof d ls k P X y cl).1])/\OwnK .i64 48 w' w.heap.size v (gof d ls k P X y cl).2.1/\Below w.heap.size w w':=by
 haveI:Nonempty World:=⟨w⟩
 have HN:Hid (Nums .i64 w (.slice p n c) d/\LyR 0 w p2 n2 ls/\RowI w pp np cp P/\RowI w px nx cx X/\RowI w py ny cy y):=⟨ar,aq,hp,hx,hy⟩
 have aX:P.length=np:=by
  obtain ⟨_,_,_,e,h⟩:=hp.1.lst;cases e;exact h.out.1
 have hO:RnO (rnF d ls [] P X) P:=s_u hp.2.1 hx.2.1 aL;have HO:Hid (RnO (rnF d ls [] P X) P):=hO;have av:Hid (nE d ls=0->∀ st,st∈(plF d ls (nS d ls) P X ls.length).1->st.op≠1->RkC st.op):=ao;obtain ⟨T,eT⟩:∃ T,gof d ls k P X y cl=T:=⟨_,rfl⟩
 have HT:Hid (gof d ls k P X y cl=T):=eT;rw [eT];clear eT ar aq hp hx hy hO ao aL;go_enter Tryz.func13,Tryz.ntmps13;go_wp2_with fail
 generalize ag:World.alloc _ _=O;have M:Hid (Below w.heap.size w O):=by rw [<- ag];exact g_f (a_b w _) _
 obtain ⟨g0,g1,x0,x1,x2⟩:O.cell? ⟨w.heap.size,0,none⟩=some (.slice p n c)/\O.cell? ⟨w.heap.size,1,none⟩=some (.slice p2 n2 c2)/\O.cell? ⟨w.heap.size+1,0,none⟩=some (.slice px nx cx)/\O.cell? ⟨w.heap.size+1,1,none⟩=some (.slice py ny cy)/\O.cell? ⟨w.heap.size+1,2,none⟩=some (.int .i64 cl):=by rw [<- ag];simp [go_sem]
 have HG:Hid (O.cell? ⟨w.heap.size+1,0,none⟩=some (.slice px nx cx)/\O.cell? ⟨w.heap.size+1,1,none⟩=some (.slice py ny cy)/\O.cell? ⟨w.heap.size+1,2,none⟩=some (.int .i64 cl)):=⟨x0,x1,x2⟩
 clear ag;refine (l_b k O).mono ?_;rintro e w1 ⟨rfl,aH⟩;rw [aH];clear aH;by_cases hk:1<=k/\k<=3
 case neg=>
  have et:T=(1,[],0):=by rw [<- HT.out];exact if_neg hk
  subst et;rw [decide_eq_false hk];go_wp2;exact bodyPost_ret (v:=.tuple #[.slice none 0 0,.int .i64 0,.int .i64 1]) (by simp [results,Tryz.results13,go_sem]) rfl ⟨_,rfl,OwnK.nil _ _ _ _,M.out⟩
 rw [decide_eq_true hk];obtain ⟨au,aw⟩:=hk;go_wp2_with fail
 refine (o_C _).mono ?_;rintro e w1 ⟨tb,rfl,aB,V⟩;have H1:Hid (TapC w1 O.heap.size tb []/\Below O.heap.size O w1):=⟨aB,V⟩
 replace g0:=a_h V g0;replace g1:=a_h V g1;replace x0:=a_h V x0;replace x1:=a_h V x1;replace x2:=a_h V x2;have kg:=a_g g0;have kx:=a_g x0;clear aB V;go_wp2_with fail
 obtain ⟨R,eR⟩:∃ R,rnF d ls [] P X=R:=⟨_,rfl⟩
 have cc:=q_9 O.heap.size tb [] NodesG.nil (by simp) d ls P X HN.out.2.2.1.2.1 HN.out.2.2.2.1.2.1 av.out p p2 pp px n c n2 c2 np cp nx cx ay (by omega) w1 H1.out.1 (show Hid _ from fun W hW=>hT.out.up (a_c M.out (H1.out.2.trans hW))) (Hid.up_kz hK (a_c M.out H1.out.2)) (fun W' hR=>HN.out.1.up (a_c M.out (H1.out.2.trans hR.bel))) (fun W' hR=>HN.out.2.1.up (a_c M.out (H1.out.2.trans hR.bel))) (fun W' hR=>HN.out.2.2.1.1.up (a_c M.out (H1.out.2.trans hR.bel))) HN.out.2.2.1.2.2 (fun W' hR=>HN.out.2.2.2.1.1.up (a_c M.out (H1.out.2.trans hR.bel)));have ae:Hid (RnO R P):=by rw [<- eR];exact HO.out
 have ak:Hid (gfR k cl y R=T):=by show _=_;rw [<- eR,<- HT.out];exact (if_pos ⟨au,aw⟩).symm
 rw [eR] at cc;clear eR HO HT av;refine cc.mono ?_;rintro e w2 ⟨v2,rfl,am,ai,aE⟩;obtain ⟨RE,RN,Rl,U⟩:=R;dsimp only at am ai;have H2:Hid (TapC w2 O.heap.size tb RN/\Below O.heap.size O w2/\OwnK .i64 3 w2 w1.heap.size v2 U):=⟨ai,H1.out.2.trans aE,am⟩
 have a0:Hid (O.heap.size<=w1.heap.size):=H1.out.2.size;replace x0:=a_d HG.out.1 H2.out.2.1;replace x1:=a_d HG.out.2.1 H2.out.2.1;replace x2:=a_d HG.out.2.2 H2.out.2.1;replace kx:=a_g x0;clear cc am ai aE g0 g1 kg H1;by_cases hE:RE=0
 case neg=>
  have et:T=(RE,[],0):=by rw [<- ak.out];exact if_neg hE
  subst et;have aA:(RE != 0)=true:=by simpa using hE
  go_wp2;exact bodyPost_ret (v:=.tuple #[.slice none 0 0,.int .i64 0,.int .i64 RE]) (by simp [results,Tryz.results13,go_sem]) rfl ⟨_,rfl,OwnK.nil _ _ _ _,a_c M.out H2.out.2.1⟩
 subst hE;go_wp2_with fail
 have cc:=l_a O.heap.size tb RN ae.out.g ae.out.l k Rl cl ⟨au,aw⟩ px py nx cx ny cy y HN.out.2.2.2.2.2.1 w2 H2.out.1 (show Hid _ from fun W hW=>hT.out.up (a_c M.out (H2.out.2.1.trans hW))) (fun W' hb _=>HN.out.2.2.2.2.1.up (a_c M.out (H2.out.2.1.trans hb)));obtain ⟨E,eE⟩:∃ R,gkE k Rl cl RN y=R:=⟨_,rfl⟩
 obtain ⟨r,er⟩:∃ R,gkR k Rl cl RN y=R:=⟨_,rfl⟩
 obtain ⟨N,eN⟩:∃ R,gkN k Rl cl RN y=R:=⟨_,rfl⟩
 have aI:Hid (E=0->GkO N r U P.length):=fun h0=>by
  have:=ae.out.gk (k:=k) (cl:=cl) HN.out.2.2.2.2.2.1 rfl (by rw [<- h0];exact eE);dsimp only at this;rw [er,eN] at this;exact this
 have af:Hid (T=if E=0 then gfT N r U else (E,[],0)):=by
  show _=_;rw [<- ak.out];unfold gfR;dsimp only;rw [if_pos rfl,eE,eN,er]
 rw [eE,er,eN] at cc;clear eE er eN ae ak;refine cc.mono ?_;rintro e w3 ⟨rfl,aK,ax,aF,_⟩;have H3:Hid (TapC w3 O.heap.size tb N/\Below O.heap.size O w3/\OwnK .i64 3 w3 w1.heap.size v2 U):=⟨aK,H2.out.2.1.trans ax,H2.out.2.2.only aF (by decide)⟩
 clear cc aK ax aF H2 x0 x1 x2 kx;by_cases hE:E=0
 case neg=>
  have et:T=(E,[],0):=by rw [af.out];exact if_neg hE
  clear af;subst et;have aA:(E != 0)=true:=by simpa using hE
  go_wp2;exact bodyPost_ret (v:=.tuple #[.slice none 0 0,.int .i64 0,.int .i64 E]) (by simp [results,Tryz.results13,go_sem]) rfl ⟨_,rfl,OwnK.nil _ _ _ _,a_c M.out H3.out.2.1⟩
 subst hE;have G:=aI.out rfl;have I:Hid (GkO N r U P.length):=G;have ac:Hid (T=gfT N r U):=af.out.trans (if_pos rfl);clear af aI G;go_wp2_with fail
 have cc:=k_9 O.heap.size tb N I.out.g I.out.v I.out.k I.out.l r w3 H3.out.1 (Hid.up_tz hT (a_c M.out H3.out.2.1));obtain ⟨E,eE⟩:∃ E,swE N r=E:=⟨_,rfl⟩
 obtain ⟨L,eL⟩:∃ L,swL N r=L:=⟨_,rfl⟩
 rw [eE,eL] at cc;refine cc.mono ?_;rintro e w4 ⟨v4,rfl,an,ad⟩;obtain ⟨p4,c4,rfl,aN⟩:=an.form;have H4:Hid (TapC w4 O.heap.size tb N/\Below O.heap.size O w4/\OwnK .i64 3 w4 w1.heap.size v2 U/\OwnTs w4 w3.heap.size (.slice p4 L.length c4) L):=⟨H3.out.1.up ad,a_c H3.out.2.1 ad,H3.out.2.2.up ad,an⟩
 have HE:Hid (swE N r=E/\swL N r=L):=⟨eE,eL⟩
 clear cc an ad H3 eE eL;by_cases hE:E=0
 case neg=>
  have et:T=(E,[],0):=by rw [ac.out];unfold gfT;rw [HE.out.1,if_neg hE]
  clear ac;subst et;have aA:(E != 0)=true:=by simpa using hE
  go_wp2;exact bodyPost_ret (v:=.tuple #[.slice none 0 0,.int .i64 0,.int .i64 E]) (by simp [results,Tryz.results13,go_sem]) rfl ⟨_,rfl,OwnK.nil _ _ _ _,a_c M.out H4.out.2.1⟩
 subst hE;obtain ⟨A,eA⟩:∃ A,(ndN N r).X.getD 0 0=A:=⟨_,rfl⟩
 have et:T=(0,d_L L U,A):=by rw [ac.out];unfold gfT;rw [HE.out.1,if_pos rfl,HE.out.2,eA]
 clear ac;subst et;dsimp only;obtain ⟨s0,s1,s2,s3⟩:=s_x I.out.g I.out.v HE.out.1;rw [HE.out.2] at s2 s3;obtain ⟨ri,aQ⟩:=Int.eq_ofNat_of_zero_le s0.1;subst aQ;rw [Int.toNat_natCast] at s2;have HL:Hid (L.length=ri+1/\(∀ i,i∈U->0<=i/\i<=(ri:Int))/\(∀ i,i∈U->(L.getD i.toNat noT).2.length=(ndN N i).X.length)/\(d_L L U).length=P.length):=⟨s2,I.out.p,fun i hi=>(s3 i (I.out.p i hi).1 (I.out.p i hi).2).2,by rw [h_h (N:=N) fun i hi=>(s3 i (I.out.p i hi).1 (I.out.p i hi).2).2];exact I.out.n⟩
 have HV:Hid (ndN N (ri:Int)=ndN N (ri:Int)/\N[ri]?=some (ndN N (ri:Int))/\(ndN N (ri:Int)).X = [A]):=by
  refine ⟨rfl,c_U (by omega),?_⟩;obtain ⟨z,ez⟩:=List.length_eq_one_iff.1 s1;rw [ez] at eA ⊢;rw [<- eA];rfl
 have aZ:(ri:Int) < 512:=by have:=I.out.l;omega
 rw [s2] at aN ⊢;rw [show (ri+1:Nat)=ri+1 from rfl];clear s0 s1 s2 s3 eA;obtain ⟨p5,m5,c5,e5⟩:=H4.out.2.2.1.form_;subst e5
 have aM:U.length=m5:=by
  obtain ⟨_,_,_,e,h⟩:=H4.out.2.2.1.nums.lst;cases e;exact h.out.1
 have aU:m5<=512:=by rw [<- aM];exact I.out.m
 go_wp2_with fail
 refine (b_9 O.heap.size tb N I.out.g ri _ HV.out.2.1 w4 H4.out.1).mono ?_;rintro e w7 ⟨v7,rfl,h7,az⟩;obtain ⟨s7,t7,rfl,aC,O7⟩:=h7;rw [HV.out.2.2] at O7;obtain ⟨aS,aT,aV,rfl⟩:=aC.form_;obtain ⟨aO,aP,rfl,_⟩:=O7.at (by show 0 < 1;omega)
 have O7:Hid (OwnK .i64 48 w7 w4.heap.size (.slice (some ⟨aO,0,none⟩) 1 aP) [A]):=O7;have H7:Hid (Below w4.heap.size w4 w7):=az;obtain ⟨aR,aa⟩:∃ z,w7.heap.size=z:=⟨_,rfl⟩
 clear az aC;go_wp2_with fail
 generalize aj:World.alloc _ _=K7;have ab:Below w7.heap.size w7 K7:=by rw [<- aj];exact a_b w7 _
 have X7:VBox K7 aR A:=by
  have:=VBox.new (s:=.slice aS aT aV) (A:=A) O7.out;rw [aj,aa] at this;exact this
 have J7:Hid (Below w.heap.size w K7/\w.heap.size<=K7.heap.size):=⟨a_c M.out (a_c H4.out.2.1 (a_c H7.out ab)),(a_c M.out (a_c H4.out.2.1 (a_c H7.out ab))).size⟩
 (try rw [aa])
 have cI:Hid (∀ W,Below K7.heap.size K7 W->Calls Tryz.prog 27 #[.slice p4 (ri+1) c4,.slice p5 m5 c5] W fun e w'=>∃ v,e = .returned v/\OwnK .i64 48 w' W.heap.size v (d_L L U)/\Below W.heap.size W w'):=fun W hW=>by
  have hh:=a_c H7.out (a_c ab hW);have a:=H4.out.2.2.2.up hh;rw [HL.out.1] at a;exact n_u _ (ri+1) m5 L U p4 p5 c4 c5 HL.out.1 (by omega) aM aU (fun i hi=>by have:=HL.out.2.1 i hi;omega) (by rw [HL.out.2.2.2];omega) W a (H4.out.2.2.1.up hh).nums
 obtain ⟨g7,b7,y0,y1,y2,y3⟩:=X7.cells;have ky:=a_a y0;clear aj ab aa O7 H7 H4 HL HV I HN;go_wp2_with fail
 refine rel [⟨2,64,OwnF K7.heap.size (d_L L U)⟩,⟨7,8,OwnF K7.heap.size (d_L L U)⟩] 8 69 (by kernel_rfl) rfl rfl (by kernel_rfl) (by rfl) ?_ ?_
 ·intro e he v W W' h hb;simp only [List.mem_cons,List.not_mem_nil,or_false] at he;rcases he with rfl|rfl
  ·exact OwnF.up h hb
  ·exact OwnF.up h hb
 apply Exists.intro;refine ⟨fun x=>?_,?_,?_⟩
 ·simp only [List.take_succ_cons,List.take_zero]
  iterate 2
   refine a_l rfl rfl ?_;apply Exists.intro;refine ⟨fun F hF hf K hK=>?_,?_⟩
   ·have hFc:=hF.cell;have hFf:=hF.frozen
    go_big_quiet_op
    first|exact hK|(apply Exists.intro;refine ⟨fun _=>?_,?_⟩;(· fail);exact hK)
   (try simp only [Act.put,sA_,sB_,sC_])
  refine a_q rfl rfl ?_ ?_
  ·intro F hF hf d;have hFc:=hF.cell;have hFf:=hF.frozen;simp [a_k,a_f,go_sem];refine (cI.out (F d) (hF.below d)).mono ?_;rintro e' w8 ⟨v8,rfl,h8,aW⟩;exact ⟨_,rfl,OwnK.low h8 (hF.below d).size,aW⟩
  iterate 4
   (try simp only [Act.put,sA_,sB_,sC_])
   refine a_l rfl rfl ?_;apply Exists.intro;refine ⟨fun F hF hf K hK=>?_,?_⟩
   ·have hFc:=hF.cell;have hFf:=hF.frozen
    go_big_quiet_op
    first|exact hK|(apply Exists.intro;refine ⟨fun _=>?_,?_⟩;(· fail);exact hK)
  (try simp only [Act.put,sA_,sB_,sC_])
  refine a_q rfl rfl ?_ ?_
  ·intro F hF hf d;have hFc:=hF.cell;have hFf:=hF.frozen;have h9:=hf _ List.mem_cons_self (by rfl) d;simp [a_k,a_f,go_sem];exact ⟨h9,Below.refl _ _⟩
  (try simp only [Act.put,sA_,sB_,sC_])
  refine b_c ?_;exact rfl
 ·intro x;simp only [b_l,List.foldl_cons,List.foldl_nil,Act.put,sA_,sB_,sC_]
 ·intro w9 xs ap hf;simp only [List.drop_succ_cons,List.drop_zero];have h9:=hf _ (List.mem_cons_of_mem _ List.mem_cons_self);obtain ⟨aG,ah⟩:∃ q,xs 7=q:=⟨_,rfl⟩
  obtain ⟨a1,aD⟩:∃ q,xs 2=q:=⟨_,rfl⟩
  simp only [ah] at h9;simp only [ah,aD];have HF:Hid (OwnK .i64 48 w9 w.heap.size aG (d_L L U)/\Below w.heap.size w w9):=⟨OwnK.low h9 J7.out.2,a_c J7.out.1 ap⟩
  clear hf h9 ap ah aD cI y0 y1 y2 y3 X7;go_wp2;exact bodyPost_ret (v:=.tuple #[aG,.int .i64 A,.int .i64 0]) (by simp [results,Tryz.results13,go_sem]) rfl ⟨_,rfl,HF.out⟩
theorem t_Q {d:List Int} {ls:List Ly} {P:List Int} (h:PlC d ls P):OfC d ls P:=fun k X y cl p p2 pp px py n c n2 c2 np cp nx U O cy M J w R hK D L hp V hy=>s_J d ls k P X y cl (fun H st E I=>(h H X st E I).1) (fun H st E I=>(h H X st E I).2) p p2 pp px py n c n2 c2 np cp nx U O cy (by omega) J w R hK D L hp V hy
theorem s_K:r_h:=fun p V n c E M a b J w U I=>by
 refine (n_o p V n c E M a b J w U I).mono ?_;rintro e w' ⟨v,rfl,O,R,H⟩;refine ⟨v,rfl,?_,O⟩;by_cases D:n=E
 ·obtain ⟨g,rfl,_,L⟩:=H D;rw [if_pos D];exact L.wrd
 ·obtain rfl:=R D;rw [if_neg D];exact ⟨none,0,0,rfl,WdR.nil _ _⟩
theorem s_L {d:List Int} {ls:List Ly} {P:List Int} (h:PlC d ls P):SumD d ls P:=t_E (t_Q h) h
theorem r_o (d:List Int) (ls:List Ly) (P:List Int):PlC d ls P:=fun _ X st E D=>by
 rcases (n_b _ _ _ _ _ _ st E).1 with h|h|h|h|h|h|h|h
 ·exact absurd h D
 ·rw [h];exact ⟨RkC.of (by decide) ck2,fun _=>ga2,fun _=>gb2⟩
 ·rw [h];exact ⟨RkC.of (by decide) ck4,fun _=>ga4,fun _=>gb4⟩
 ·rw [h];exact ⟨RkC.of (by decide) ck8,fun _=>ga8,fun h=>absurd h (by decide)⟩
 ·rw [h];exact ⟨RkC.of (by decide) t_P,fun _=>t_O,fun h=>absurd h (by decide)⟩
 ·rw [h];exact ⟨RkC.of (by decide) t_6,fun _=>t_1,fun _=>t_2⟩
 ·rw [h];exact ⟨RkC.of (by decide) t_7,fun _=>t_Z,fun h=>absurd h (by decide)⟩
 ·rw [h];exact ⟨RkC.of (by decide) t_8,fun _=>t_Y,fun h=>absurd h (by decide)⟩
def NewW (B:Nat) (v:Value) (W:World):Prop:=∃ g,v = .pointer (some ⟨g,0,none⟩)/\W.heap[g]?=some (.cells #[.int .i64 0,.int .u64 0] 38 (0,0))/\B<=g
theorem NewW.up {B:Nat} {v:Value} {W W':World} (h:NewW B v W) (D:Below W.heap.size W W'):NewW B v W':=by
 obtain ⟨g,e,a,b⟩:=h;exact ⟨g,e,(D.block _ (a_i a)).trans a,b⟩
theorem p_b {f:Exm->Int×List Int×Int} {n:Nat} {l:List Exm} (h:(e_R f n l).1=0):(e_R f n l).2.1.length=n:=by
 rw [f_V (h_m h)];exact h_k f n l
theorem p_c {f:Exm->Int×List Int×Int} {n:Nat} {l:List Exm}:InW (e_R f n l).2.2:=by
 have:∀ i,InW (smK f n l i).2.2:=fun i=>by
  induction i with
  | zero=>show InW 0;unfold InW;omega
  | succ i ih=>
   rw [smK]
   split
   ·split
    ·exact d_d _
    ·show InW 0;unfold InW;omega
   ·exact ih
 exact this _
/-- A Wide's box that was just made, and written. -/
theorem r_p {W:World} {g:Nat} (a b:Int) (h:W.heap[g]?=some (.cells #[.int .i64 0,.int .u64 0] 38 (0,0))):(W.cell? ⟨g,0,none⟩=some (.int .i64 0)/\W.cell? ⟨g,1,none⟩=some (.int .u64 0)/\W.frozen? ⟨g,0,none⟩=false/\W.frozen? ⟨g,1,none⟩=false)/\(((W.setCell ⟨g,0,none⟩ (.int .i64 a)).setCell ⟨g,1,none⟩ (.int .u64 b)).cell? ⟨g,0,none⟩=some (.int .i64 a)/\((W.setCell ⟨g,0,none⟩ (.int .i64 a)).setCell ⟨g,1,none⟩ (.int .u64 b)).cell? ⟨g,1,none⟩=some (.int .u64 b)):=by
 have D:=a_Y (i:=0) h rfl;have E:=a_Y (i:=1) h rfl;refine ⟨⟨D.1,E.1,D.2,E.2⟩,?_⟩;refine ⟨?_,b_p (v:=.int .u64 0) ?_⟩
 ·rw [a_w (by omega)];exact b_p D.1
 ·rw [a_w (by omega)];exact E.1
theorem exT:GT Tryz.prog 27 33 3 56:=⟨Tryz.underlying27,by kernel_rfl⟩
/-- The three cells of an example, its rows as they lie in w. -/
def ExC (w:World) (xs:List Value) (i:Nat) (e:Exm):Prop:=∃ p n c p2 n2 c2,xs[i*3]?=some (.slice p n c)/\xs[i*3+1]?=some (.slice p2 n2 c2)/\xs[i*3+2]?=some (.int .i64 e.2.2)/\InR e.2.2/\RowI w p n c e.1/\RowI w p2 n2 c2 e.2.1
def ExO (w:World) (B:Nat) (l:List Exm) (v:Value) (W:World):Prop:=∃ xs,W.ownsRow B 33 3 v l.length xs/\∀ i,i < l.length->ExC w xs i (exA l i)
theorem ExC.app {w:World} {D E:List Value} {i:Nat} {e:Exm} (h:ExC w D i e):ExC w (D++E) i e:=by
 obtain ⟨p,n,c,J,I,H,a,b,d,r⟩:=h
 have g:∀ {j:Nat} {u:Value},D[j]?=some u->(D++E)[j]?=some u:=fun {j u} hj=>by
  rw [List.getElem?_append_left (List.getElem?_eq_some_iff.1 hj).1];exact hj
 exact ⟨p,n,c,J,I,H,g a,g b,g d,r⟩
theorem ExO.exr {w:World} {B:Nat} {l:List Exm} {v:Value} {W:World} (h:ExO w B l v W) (I:Below w.heap.size w W):∃ p n c,v = .slice p n c/\n=l.length/\ExR W p n l:=by
 obtain ⟨xs,a,b⟩:=h;rcases a.2 with ⟨e,H⟩|⟨g,M,O,e,_,_,_⟩
 ·exact ⟨none,0,0,e,H.symm,H,fun i E=>by omega⟩
 ·refine ⟨_,_,_,e,rfl,rfl,fun i E=>⟨g,0,rfl,?_⟩⟩
  have D:∀ {j:Nat} {u:Value},xs[j]?=some u->W.cell? ⟨g,0+j,none⟩=some u:=fun {j u} hj=>by
   have:=World.ownsRow.cells a (g:=g) (by rw [e];rfl) j u hj;rw [a_t] at this;exact this
  obtain ⟨p,n,c,U,R,L,x,y,z,r,V,J⟩:=b i E;exact ⟨p,n,c,U,R,L,D x,by rw [Nat.add_assoc];exact D y,by rw [Nat.add_assoc];exact D z,r,V.up I,J.up I⟩
end Go.Proofs.YtcpbhhlepdgdkaaGreatDoor.Wd
