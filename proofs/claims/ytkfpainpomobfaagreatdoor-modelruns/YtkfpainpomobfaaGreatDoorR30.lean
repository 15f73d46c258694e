/- The reference's Mul. · append within a d -/
import Derived.Test.YtkfpainpomobfaaGreatDoorR29
set_option linter.unusedVariables false
set_option linter.unusedSimpArgs false
set_option maxHeartbeats 16000000
set_option maxRecDepth 16000
namespace Go.Proofs.YtkfpainpomobfaaGreatDoor.Wd
open Go.RowKit Fx List World Nat
end Go.Proofs.YtkfpainpomobfaaGreatDoor.Wd
namespace Go.Proofs.YtkfpainpomobfaaGreatDoor.Wd
open Go.RowKit List World Nat
/-- A literal's own block: just these cells. -/
def LitX (e:TypeId) (B:Nat) (l:List Int) (v:Value) (W:World):Prop:=∃ g,v = .slice (some ⟨g,0,none⟩) l.length l.length/\W.heap[g]?=some (.cells (a_N .i64 l).toArray e (0,0))/\B<=g
theorem j_C {W:World} {b:Nat} {o:Obj} (h:W.heap[b]?=some o):b < W.heap.size:=by
 rcases Nat.lt_or_ge b W.heap.size with A|A
 ·exact A
 ·rw [Array.getElem?_eq_none A] at h;cases h
theorem LitX.up {e:TypeId} {B:Nat} {l:List Int} {v:Value} {W W':World} (h:LitX e B l v W) (I:Bw W W'):LitX e B l v W':=by
 obtain ⟨g,E,A,H⟩:=h;exact ⟨g,E,by rw [I.block g (j_C A)];exact A,H⟩
theorem h_K (e:TypeId) (B:Nat) (l:List Int) (W:World) (A:B<=W.heap.size):LitX e B l (.slice (some ⟨W.heap.size,0,none⟩) l.length l.length) (W.alloc (.cells (a_N .i64 l).toArray e)):=
 ⟨_,rfl,by show (W.heap.push _)[W.heap.size]?=_;simp,A⟩
theorem LitX.own {e:TypeId} {B:Nat} {l:List Int} {v:Value} {W:World} (h:LitX e B l v W) (H:l.length<=1073741824):OwnK .i64 e W B v l:=by
 obtain ⟨g,rfl,A,E⟩:=h;refine ⟨by simp [a_N],.inr ⟨g,l.length,_,rfl,E,A,Nat.le_refl _,by unfold maxLen;omega,by simp [a_N],by rw [Nat.mul_one,take_of_length_le (by simp [a_N])]⟩⟩
/-- A row of one's own of these numbers; where it has none, it is an empty literal. -/
def RowX (e:TypeId) (B:Nat) (l:List Int) (v:Value) (W:World):Prop:=OwnK .i64 e W B v l/\(l = []->∃ g,v = .slice (some ⟨g,0,none⟩) 0 0)
theorem RowX.up {e:TypeId} {B:Nat} {l:List Int} {v:Value} {W W':World} (h:RowX e B l v W) (A:Bw W W'):RowX e B l v W':=⟨h.1.up A,h.2⟩
/-- One block may have changed: of two cells or more, the first S of them as they were. -/
def Tq (e:TypeId) (S B:Nat) (W W':World):Prop:=∃ r,W.grownBy W' r/\∀ g,r=some g->B<=g/\∃ cs cs',W.heap[g]?=some (.cells cs e (0,0))/\W'.heap[g]?=some (.cells cs' e (0,0))/\2<=cs.size/\cs'.size=cs.size/\cs'.toList.take S=cs.toList.take S
theorem LitX.tq {e:TypeId} {B S R:Nat} {l:List Int} {v:Value} {W W':World} (h:LitX e B l v W) (hl:l.length < 2) (V:Tq e S R W W'):LitX e B l v W':=by
 obtain ⟨g,L,E,O⟩:=h;obtain ⟨r,I,M⟩:=V;refine ⟨g,L,?_,O⟩;by_cases c:r=some g
 ·obtain ⟨_,Z,J,A,_,H,_⟩:=M g c;rw [E] at A
  injection A with A
  injection A with A
  rw [<- A] at H;simp [a_N] at H;omega
 ·rw [I.block g (j_C E) (fun x=>c x.symm)];exact E
theorem RowX.tq {e:TypeId} {B S B':Nat} {l:List Int} {v:Value} {W W':World} (h:RowX e B l v W) (hl:l.length=S) (hT:Tq e S B' W W'):RowX e B l v W':=by
 obtain ⟨r,hg,hr⟩:=hT;refine ⟨⟨h.1.1,?_⟩,h.2⟩;rcases h.1.2 with H|⟨g,E,I,H,M,L,R,O,V,Z⟩
 ·exact .inl H
 ·by_cases c:r=some g
  ·obtain ⟨_,cs,J,A,c2,_,c4,c5⟩:=hr g c;rw [L] at A
   injection A with A
   injection A with A
   subst A;refine .inr ⟨g,E,J,H,M,c2,R,O,by rw [c4];exact V,?_⟩;rw [<- Z,Nat.mul_one,hl];exact c5
  ·refine .inr ⟨g,E,I,H,M,?_,R,O,V,Z⟩;rw [hg.block g (j_C L) (fun x=>c x.symm)];exact L
theorem Tq.below {e:TypeId} {S:Nat} {A W W':World} (E:Bw A W) (h:Tq e S A.heap.size W W'):Bw A W':=by
 obtain ⟨r,J,H⟩:=h;exact Below.grown E J E.size fun k I=>(H k I).1
/-- append([]T{}, v...). -/
theorem u_D {P:Program} {t e:TypeId} {b:Nat} (T:NumT P t e .i64 b) (L:b<=8) (V:TypeId) (W:World) (B:Nat) (u:Value) (h0:LitX e B [] u W) (hB:B<=W.heap.size) (v:Value) (l:List Int) (hv:Nums .i64 W v l) (hl:l.length<=1073741824):
  ∃ H E,(Builtin.append_ #[t,t] V #[u,v]).run P W = .ok H E/\RowX e B l H E/\Bw W E:=by
 have A:=h0.own (by simp);obtain ⟨g,rfl,h1,h2⟩:=h0;have A:OwnK .i64 e W B (.slice (some ⟨g,0,none⟩) 0 0) []:=A;obtain ⟨Z,O,R,I,J⟩:=d_r T;rcases hv with ⟨rfl,rfl⟩|⟨ad,c,rfl,hc⟩
 ·exact ⟨_,W,run_append_owned_none W B t V e Z 1 T.ht O _ _ _ A,⟨A,fun _=>⟨g,rfl⟩⟩,Below.refl _ _⟩
 ·by_cases h:l = []
  ·subst h;refine ⟨.slice (some ⟨g,0,none⟩) 0 0,W,?_,⟨A,fun _=>⟨g,rfl⟩⟩,Below.refl _ _⟩;have hf:=run_firstCells_some (P:=P) W Z.size 0 ad 0 c [] (by simp) (fun j u M=>by simp at M);simp [Builtin.append_,run_underlying T.ht,sizeOf,typeInfo,O,Builtin.lenOf,hf,storeCells]
  ·have ab:0 < l.length:=by cases l with|nil=>exact absurd rfl h|cons a l=>simp
   have hm:(0+l.length)*b<=1073741824*8:=Nat.mul_le_mul (by omega) L;obtain ⟨H,E,hr,ho,aa⟩:=run_append_arg_grows (P:=P) (w:=W) t V e Z (.int .i64 0) 1 b T.ht O R I J rfl (by decide) ⟨g,0,none⟩ 0 0 [] rfl (fun j u M=>by simp at M) ad l.length c (a_N .i64 l) (by simp [a_N]) hc (by omega) (by unfold maxLen;omega) (by omega);refine ⟨H,E,hr,⟨?_,fun c=>absurd c h⟩,Below.grown (Below.refl _ _) aa (Nat.le_refl _) (fun j hj=>by cases hj)⟩;rw [Nat.zero_add,nil_append] at ho;exact OwnK.low (B:=W.heap.size) ho hB
/-- append(u, x). -/
theorem u_1 {P:Program} {t e:TypeId} {b:Nat} (T:NumT P t e .i64 b) (ae:b<=8) (ty:TypeId) (W:World) (B:Nat) (u:Value) (l:List Int) (Z:RowX e B l u W) (hB:B<=W.heap.size) (v:Value) (X:Int) (hv:LitX e B [X] v W) (hl:l.length+1<=1073741824):
  ∃ R A,(Builtin.append_ #[t,t] ty #[u,v]).run P W = .ok R A/\OwnK .i64 e A B R (l++[X])/\Tq e l.length B W A:=by
 obtain ⟨i0,hi,ac,O,ab⟩:=d_r T;have ag:=(hv.own (by simp)).nums;obtain ⟨gv,rfl,al,ak⟩:=hv
 have hc:∀ j u,(a_N .i64 [X])[j]?=some u->W.cell? ((⟨gv,0,none⟩:Addr).add j)=some u:=by
  rcases ag with ⟨L,_⟩|⟨am,c',J,hc⟩
  ·cases L
  ·cases J;exact hc
 have hm:(l.length+1)*b<=1073741824*8:=Nat.mul_le_mul hl ae;have E:=Z.1;rcases Z.1.2 with ⟨L,h0⟩|⟨g,I,ad,L,h2,h3,h4,h5,h6,h7⟩
 ·obtain ⟨g,hg⟩:=Z.2 (eq_nil_of_length_eq_zero h0);rw [L] at hg;cases hg
 ·subst L;by_cases H:l.length+1<=I
  ·obtain ⟨A,hr,V,hg⟩:=run_append_fits (P:=P) (w:=W) B t ty e i0 1 T.ht hi O g l.length I (a_N .i64 l) E ⟨gv,0,none⟩ 1 1 (a_N .i64 [X]) (by simp [a_N]) hc (d_L .i64 [X]) H
   have af:l≠[]:=fun c=>by
    obtain ⟨g',aa⟩:=Z.2 c
    injection aa with _ _ e3
    omega
   have aj:0 < l.length:=by cases l with|nil=>exact absurd rfl af|cons a l=>simp
   refine ⟨_,A,hr,?_,some g,hg,fun q hq=>?_⟩
   ·unfold OwnK a_N at *;simpa using V
   ·cases hq;refine ⟨h2,?_⟩;rcases V.2 with ⟨c,_⟩|⟨g2,ai,M,k1,k2,k3,k4,k5,k6,k7⟩
    ·cases c
    ·injection k1 with J e2 e3
     injection J with J
     injection J with J
     subst J e3;refine ⟨ad,M,h3,k3,by rw [h6];omega,by rw [k6,h6],?_⟩;have e4:=congrArg (List.take l.length) k7;rw [take_take,Nat.min_eq_left (by omega)] at e4;rw [Nat.mul_one] at h7;rw [e4,h7];exact take_left' (by simp [a_N])
  ·obtain ⟨R,A,hr,V,ah⟩:=run_append_arg_grows (P:=P) (w:=W) t ty e i0 (.int .i64 0) 1 b T.ht hi ac O ab rfl (by decide) ⟨g,0,none⟩ l.length I (a_N .i64 l) (by simp [a_N]) (ownsRow.cells E rfl) ⟨gv,0,none⟩ 1 1 (a_N .i64 [X]) (by simp [a_N]) hc (by omega) (by unfold maxLen;omega) (by omega);refine ⟨R,A,hr,?_,none,ah,fun q hq=>by cases hq⟩
   have:OwnK .i64 e A W.heap.size R (l++[X]):=by
    unfold OwnK a_N at *;simpa using V
   exact this.low hB
end Go.Proofs.YtkfpainpomobfaaGreatDoor.Wd
namespace Go.Proofs.YtkfpainpomobfaaGreatDoor.Wd
open Go.RowKit Fx List World Nat
/-- A row of one's own, told. -/
def u_2 (B:Nat) (l:List Int) (v:Value) (W:World):Prop:=OwnK .i64 3 W B v l
theorem k_P (l:List Nat) (s:Nat):(itl l).take s=itl (l.take s):=by unfold itl;rw [map_take]
theorem p_Q (l:List Nat) (s:Nat):(itl l).drop s=itl (l.drop s):=by unfold itl;rw [map_drop]
theorem g_4 (a b:List Nat):itl (a++b)=itl a++itl b:=by unfold itl;rw [map_append]
/-- What the cuts of a row of a shape hold. -/
theorem q_s {W:World} {p:Option Addr} {n c s:Nat} {l:List Nat} (h:s<=n) (A:n<=c) (hb:Nums .i64 W (.slice p n c) (itl l)) (E:l.length=n):Nums .i64 W (sliced p 0 s c 1) (itl (l.take s)):=by
 have:=d_Y (k:=.i64) (W:=W) (p:=p) (i:=0) (j:=s) (by omega) h (by rw [a_p];exact E) A hb;rw [drop_zero,Nat.sub_zero,k_P] at this;exact this
theorem q_t {W:World} {p:Option Addr} {n c s:Nat} {l:List Nat} (h:s<=n) (A:n<=c) (hb:Nums .i64 W (.slice p n c) (itl l)) (E:l.length=n):Nums .i64 W (sliced p s n c 1) (itl (l.drop s)):=by
 have:=d_Y (k:=.i64) (W:=W) (p:=p) (i:=s) (j:=n) h (Nat.le_refl _) (by rw [a_p];exact E) A hb;rw [p_Q,k_P,take_of_length_le (by rw [length_drop];omega)] at this;exact this
theorem r_Z (p p2:Option Addr) (n c n2 c2:Nat) (d x:List Int) (E:Int) (hr:InR E) (hd:RI d) (hx:RI x) (b6:n<=10) (bx:n<=c) (w:World) (h1:Nums .i64 w (.slice p n c) d) (h2:Nums .i64 w (.slice p2 n2 c2) x) (bZ:smP d x E):
  Calls Tryz.prog 71 #[.agg #[.slice p n c,.slice p2 n2 c2],.int .i64 E] w fun e w'=>∃ v',e = .returned (.tuple #[v',.int .i64 (smE d x E)])/\TRes w' w.heap.size v' (smD d x E) (smV d x E)/\Bw w w':=by
 have cA:=fun W (hW:Bw w W)=>c_6 _ _ d x hd W (h1.up hW) (h2.up hW);obtain ⟨_,_,_,e4,HD⟩:=h1.lst;cases e4;obtain ⟨_,_,_,e4,HX⟩:=h2.lst;cases e4;have bN:(n:Int)<=10:=by omega
 have bH:-9223372036854775808<=E/\E<=9223372036854775807:=hr;haveI:Nonempty World:=⟨w⟩
 obtain ⟨hp,aJ,aI⟩:=bZ;rw [HD.1] at aI;rw [decide_eq_true hp] at cA;obtain ⟨a,ga,rfl⟩:=b_u hp.1;obtain ⟨s,rfl⟩:=Int.eq_ofNat_of_zero_le aJ;have al:a.length=n:=by have:=HD.1;rw [a_p] at this;exact this
 have ah:s < a.length:=by omega
 have aT:x.length=a_f a:=by have:=hp.2;rw [a_n] at this;exact this
 have aA:smP (itl a) x (s:Int):=⟨hp,aJ,by rw [a_p,al];exact aI⟩
 have e1:smE (itl a) x (s:Int)=0:=if_pos aA;have e2:smD (itl a) x (s:Int)=itl (a_R a s):=by unfold smD;rw [if_pos aA,a_n];rfl
 have e3:smV (itl a) x (s:Int)=m_y a s x:=by unfold smV;rw [if_pos aA,a_n];rfl
 rw [e1,e2,e3];have gl:=c_X ga s ah;obtain ⟨C,eC⟩:∃ C,a.getD s 0=C:=⟨_,rfl⟩
 obtain ⟨N,eN⟩:∃ N,a_f (a_R a s)=N:=⟨_,rfl⟩
 obtain ⟨V,eV⟩:∃ V,m_y a s x=V:=⟨_,rfl⟩
 have bK:1<=C:=by rw [<- eC];exact h_r ga s ah
 have bh:C<=a_f a:=by rw [<- eC,a_t a s 0 ah];exact d_s ga.2.1 _ (getElem_mem ah)
 have bU:1<=N:=by rw [<- eN];exact gl.pos
 have ci:N<=4096:=by rw [<- eN];exact gl.2.2
 have aE:(a_R a s).length+1=n:=by simp only [a_R,length_append,length_take,length_drop];omega
 have A:Hid (goodN a/\s < a.length/\a.length=n/\x.length=a_f a/\a_f a<=4096/\goodN (a_R a s)/\a.getD s 0=C/\a_f (a_R a s)=N/\m_y a s x=V/\V.length=N/\(a_R a s).length+1=n/\RI x/\C<=4096/\RI (itl a)):=⟨ga,ah,al,aT,ga.2.2,gl,eC,eN,eV,by rw [<- eV,k_d,eN],aE,hx,Nat.le_trans bh ga.2.2,hd⟩
 rw [eV];have bO:n2=a_f a:=by rw [<- aT];exact HX.1.symm
 have b5:(n2:Int)<=4096:=by have:=ga.2.2;omega
 obtain ⟨q,o,rfl,ba⟩:=HD.2 s (by omega);rw [a_K,eC] at ba;have ck:1<=(C:Int)/\(C:Int)<=4096:=by have:=ga.2.2;omega
 have co:1<=(N:Int)/\(N:Int)<=4096:=by omega
 obtain ⟨s1,bX⟩:∃ s1,s+1=s1:=⟨_,rfl⟩
 have b3:(s:Int)+1=(s1:Int):=by omega
 obtain ⟨ZA,au⟩:=b_H (some ⟨q,o,none⟩) 0 s c;obtain ⟨ZB,aU⟩:=b_H (some ⟨q,o,none⟩) s1 n c;rw [Nat.sub_zero,Nat.sub_zero] at au;have bt:Hid ((∀ W,Sem.run Tryz.prog (Instr.slice 22 (.slice (some ⟨q,o,none⟩) n c) none (some (.int .i64 (s:Int))) none) W = .ok (.slice ZA s c) W)/\(∀ W,Sem.run Tryz.prog (Instr.slice 22 (.slice (some ⟨q,o,none⟩) n c) (some (.int .i64 (s1:Int))) none none) W = .ok (.slice ZB (n - s1) (c - s1)) W)):=⟨fun W=>by rw [m_B _ n c s (by omega) W,au],fun W=>by rw [p_4 _ n c s1 (by omega) W,aU]⟩
 have a8:Hid (∀ W,Bw w W->Nums .i64 W (.slice ZA s c) (itl (a.take s))/\Nums .i64 W (.slice ZB (n - s1) (c - s1)) (itl (a.drop (s+1)))):=fun W hW=>by
  refine ⟨?_,?_⟩
  ·rw [<- au];exact q_s (by omega) bx (h1.up hW) al
  ·rw [<- aU,bX];exact q_t (by omega) bx (h1.up hW) al
 have bM:Hid (Nums .i64 w (.slice (some ⟨q,o,none⟩) n c) (itl a)):=h1;have cn:(s:Int) < (n:Int):=by omega
 clear hp aJ aI al ah aT aA e1 e2 e3 eC eN eV bK bh bU aE gl ga hx hd h1 h2 au aU bO bH;go_enter Tryz.func71,Tryz.ntmps71;go_wp2_with fail
 generalize bn:alloc _ _=W0;obtain ⟨a7,XA,XR⟩:=i_M bn;clear bn;refine (cA W0 a7).mono ?_;rintro e w1 ⟨rfl,aH⟩;have an:=b_5 (a_c a7 aH) aH;clear aH cA;obtain ⟨a0,a1,_,_⟩:=XA.out.up an.2;have a9:=a_b a0;go_wp2_with fail
 refine rel [⟨0,31,LitX 3 w1.heap.size []⟩,⟨5,36,RowX 3 w1.heap.size (itl (a.take s))⟩] 11 102 (by kernel_rfl) rfl rfl (by kernel_rfl) (by rfl) ?_ ?_
 ·exact upC (fun _ _ _=>LitX.up) (upC (fun _ _ _=>RowX.up) upN)
 apply Exists.intro;refine ⟨fun x=>?_,?_,?_⟩
 ·simp only [take_succ_cons,take_zero];refine c_g rfl rfl ?_ ?_
  ·intro F hF hf d hFc hFf;simp [a_j,a_e,go_sem];exact ⟨h_K _ _ [] (F d) (hF.below d).size,a_a _ _⟩
  iterate 3
   (try simp only [a_v])
   apply c_w;rfl;rfl
   ·intro F hF hf K hK hFc hFf
    go_big_quiet_op
    exact hK
  (try simp only [a_v])
  apply c_w;rfl;rfl
  ·intro F hF hf K hK hFc hFf;have kA:=bt.1
   go_big_quiet_op
   exact hK
  (try simp only [a_v])
  refine c_g rfl rfl ?_ ?_
  ·intro F hF hf d hFc hFf;have h9:=hf _ mS (by rfl) d;obtain ⟨v8,w8,am,ap,ai⟩:=u_D e_g (by decide) 22 (F d) w1.heap.size _ h9 (hF.below d).size _ _ (a8.out (F d) (a_c an.1 (hF.below d))).1 (by rw [a_p,length_take];omega);simp [a_j,a_e,execOp,resolve,invoke,builtin,Act.eval,am,Result.andThen];exact ⟨ap,ai⟩
  iterate 4
   (try simp only [a_v])
   apply c_w;rfl;rfl
   ·intro F hF hf K hK hFc hFf
    go_big_quiet_op
    exact hK
  (try simp only [a_v])
  apply c_w;rfl;rfl
  ·intro F hF hf K hK hFc hFf;have kB:=bt.2
   go_big_quiet_op
   exact hK
  (try simp only [a_v])
  refine b_A ?_;exact rfl
 ·intro x;simp only [b_q,foldl_cons,foldl_nil,a_v]
 intro w2 xs ac hf;simp only [drop_succ_cons,drop_zero];have h5:=hf _ (mC mS);obtain ⟨x0,e0⟩:∃ q,xs 0=q:=⟨_,rfl⟩
 obtain ⟨x5,e5⟩:∃ q,xs 5=q:=⟨_,rfl⟩
 simp only [e5] at h5;simp only [e0,e5];have bo:Hid (OwnK .i64 3 w2 w1.heap.size x5 (itl (a.take s))):=h5.1;have a6:=a8.out w2 (a_c an.1 ac);have a3:Hid (Nums .i64 w2 (.slice ZB (n - s1) (c - s1)) (itl (a.drop (s+1)))):=a6.2;have bu:Hid ((itl (a.take s)).length+(itl (a.drop (s+1))).length<=1073741824):=by show _<=_;rw [a_p,a_p,length_take,length_drop];have:=A.2.2.1;omega
 have aX:Hid (Bw w1 w2):=ac;clear hf h5 a6 ac e0 e5 a0 a1 a9;go_wp2_with (at_builtin;refine a_x e_g (by decide) rfl (.tmp 36) (.tmp 41) rfl w1.heap.size _ _ rfl bo.out _ _ rfl a3.out bu.out aX.size w1 aX ?_;intro v6 w3 H6 B6)
 have ax:Hid (OwnK .i64 3 w3 w1.heap.size v6 (itl (a_R a s))):=by
  show OwnK _ _ _ _ _ _;unfold a_R;rw [g_4];exact H6.out
 have ak:=b_5 (a_c an.1 B6) (a_c an.2 B6);clear H6 B6 bo a3 bu aX;have cN:=e_P v6 (itl (a_R a s)) (e_I A.2.2.2.2.2.1.le) (by rw [a_n];exact A.2.2.2.2.2.1) 0 w3 ax.out.nums;rw [a_n,A.2.2.2.2.2.2.2.1] at cN;refine cN.mono ?_;rintro e w8 ⟨v8,rfl,⟨s8,g,cg,rfl,aM,af,aG,aO⟩,aD⟩;obtain ⟨p8,n8,c8,rfl,_⟩:=aM.nums.lst;clear cN;go_wp2_with fail
 generalize aQ:alloc _ _=W9;have B9:Bw w8 W9:=by rw [<- aQ];exact a_a w8 _
 have XT:Hid (Cel W9 w8.heap.size (.slice p8 n8 c8) (.slice (some ⟨g,0,none⟩) N cg)):=by show Cel _ _ _ _;unfold Cel;rw [<- aQ];simp [go_sem]
 have aR:Hid (Bw w W9/\Bw W0 W9):=⟨a_c ak.1 (a_c aD B9),a_c ak.2 (a_c aD B9)⟩
 have be:Hid (OwnK .i64 3 W9 w3.heap.size (.slice p8 n8 c8) (itl (a_R a s))/\Off g (.slice p8 n8 c8)):=⟨aM.up B9,aG⟩
 have bT:Hid (OwnK .i64 48 W9 g (.slice (some ⟨g,0,none⟩) N cg) (b_l V 0)):=by
  show OwnK _ _ _ _ _ _;rw [a_W,A.2.2.2.2.2.2.2.2.2.1];exact (af.up B9).base
 have bd:Hid (OwnK .i64 3 W9 w1.heap.size v6 (itl (a_R a s))/\Off g v6):=⟨ax.out.up (a_c aD B9),ax.out.off_new aO⟩
 have hz:=a_b XR.1;have a4:=af.size;have Hg:Hid (W0.heap.size<=g/\w.heap.size+1 < W0.heap.size/\g < w8.heap.size/\W0.heap.size<=w3.heap.size):=⟨Nat.le_trans ak.2.size aO,hz,a4,ak.2.size⟩
 obtain ⟨b8,ai⟩:∃ b8,w8.heap.size=b8:=⟨_,rfl⟩
 rw [ai] at XT Hg ⊢;clear aQ B9 hz a4 aM af aD aO aG ak ai ax
 go_loopg [8] N (fun gg i wr=>∃ (I:Nat),I<=N/\gg=N - I/\i = .int .i64 (I:Int)/\Hid (OwnK .i64 48 wr g (.slice (some ⟨g,0,none⟩) N cg) (b_l V I))/\Hid (Bw w wr/\Stay g W9 wr))
 case atStart=>exact ⟨0,by omega,by omega,by first|rfl|simp,bT,aR.1,Stay.refl _ _⟩
 case round=>
  obtain ⟨I,hI,cs,rfl,br,ae⟩:=hrel;obtain ⟨R1,bW⟩:∃ R1:World,R1=wr:=⟨_,rfl⟩
  subst bW;have xT:Cel R1 b8 (.slice p8 n8 c8) (.slice (some ⟨g,0,none⟩) N cg):=XT.out.stay ae.2 (by have:=Hg.out;omega);obtain ⟨t0,t1,_,_⟩:=xT;have t9:=a_b t0;by_cases aN:I < N
  ·have cb:(I:Int) < (N:Int):=by omega
   have bc:I < a_f (a_R a s):=by rw [A.2.2.2.2.2.2.2.1];exact aN
   have cP:=g_H v6 (itl (a_R a s)) (e_I A.2.2.2.2.2.1.le) (I:Int) R1 (bd.1.nums.stay ae.2 bd.2)
   have eP:g_E (itl (a_R a s)) (I:Int)=itl (a_G (a_R a s) I):=by
    unfold g_E;rw [a_n,a_T A.2.2.2.2.2.1,if_pos ⟨by omega,by omega⟩,Int.toNat_natCast]
   rw [eP,a_n,a_T A.2.2.2.2.2.1] at cP;obtain ⟨P,aw⟩:∃ P,a_G (a_R a s) I=P:=⟨_,rfl⟩
   rw [aw] at cP;have HP:Hid (a_G (a_R a s) I=P/\P.length+1=n/\I < a_f (a_R a s)):=⟨aw,by rw [<- aw,b_M];exact A.2.2.2.2.2.2.2.2.2.2.1,bc⟩
   clear eP aw bc;go_wp2_with fail
   refine cP.mono ?_;rintro e H ⟨vp,rfl,ad,ay⟩;obtain ⟨pp,np,cp,rfl,bm⟩:=ad.nums.lst;have cE:np+1=n:=by rw [<- bm.1,a_p];exact HP.2.1
   have cd:Hid (OwnK .i64 3 H R1.heap.size (.slice pp np cp) (itl P)):=ad;have ab:Hid (Bw w H/\Stay g W9 H/\Bw R1 H):=⟨a_c ae.1 ay,ae.2.up ay,ay⟩
   obtain ⟨YA,aC⟩:=b_H pp 0 s cp;obtain ⟨YB,aL⟩:=b_H pp s np cp;rw [Nat.sub_zero,Nat.sub_zero] at aC;have bY:=ad.cap;have a5:Hid ((∀ W,Sem.run Tryz.prog (Instr.slice 22 (.slice pp np cp) none (some (.int .i64 (s:Int))) none) W = .ok (.slice YA s cp) W)/\(∀ W,Sem.run Tryz.prog (Instr.slice 22 (.slice pp np cp) (some (.int .i64 (s:Int))) none none) W = .ok (.slice YB (np - s) (cp - s)) W)):=⟨fun W=>by rw [m_B _ np cp s (by omega) W,aC],fun W=>by rw [p_4 _ np cp s (by omega) W,aL]⟩
   have bl:Hid (∀ W,Bw H W->Nums .i64 W (.slice YA s cp) (itl (P.take s))/\Nums .i64 W (.slice YB (np - s) (cp - s)) (itl (P.drop s))):=fun W hW=>by
    have hl:P.length=np:=by have:=HP.2.1;omega
    refine ⟨?_,?_⟩
    ·rw [<- aC];exact q_s (by omega) ad.cap (ad.up hW).nums hl
    ·rw [<- aL];exact q_t (by omega) ad.cap (ad.up hW).nums hl
   clear cP ad ay bm aC aL t0 t1 t9 bY;go_wp2_with fail
   have bC:Hid (LiesS (H.alloc (.cells #[.bool false,.int .u64 0,.int .u64 0,.int .u64 0,.int .u64 0] 165)) H.heap.size (b_C (fun k=>x.getD ((I / a_f (a.drop (s+1))*C+k)*a_f (a.drop (s+1))+I % a_f (a.drop (s+1))) 0) 0)):=i_K H _
   go_loopg [12] C (fun gg i wr=>∃ (k:Nat),k<=C/\gg=C - k/\i = .int .i64 (k:Int)/\Hid (LiesS wr H.heap.size (b_C (fun k=>x.getD ((I / a_f (a.drop (s+1))*C+k)*a_f (a.drop (s+1))+I % a_f (a.drop (s+1))) 0) k))/\Hid (Bw H wr))
   case atStart=>exact ⟨0,by omega,by omega,by first|rfl|simp,bC,a_a H _⟩
   case round=>
    obtain ⟨k,hk,cm,rfl,L0,L⟩:=hrel;obtain ⟨O,b2⟩:∃ O:World,O=wr:=⟨_,rfl⟩
    subst b2;have xA:Cel O w.heap.size (.slice (some ⟨q,o,none⟩) n c) (.slice p2 n2 c2):=((XA.out.up aR.2).stay ab.2.1 (by have:=Hg.out;omega)).up L.out;have aP:Bw w O:=a_c ab.1 L.out;have ua:=a_d ba aP;have bz:=a_b ua;obtain ⟨a0,a1,_,_⟩:=xA;have a9:=a_b a0;by_cases bq:k < C
    ·have cx:(k:Int) < (C:Int):=by omega
     have aZ:Hid (Cel O w.heap.size (.slice (some ⟨q,o,none⟩) n c) (.slice p2 n2 c2)):=⟨a0,a1,by assumption,by assumption⟩
     have bB:Hid ((itl (P.take s)).length=s):=by show _=_;rw [a_p,length_take];have:=HP.2.1;omega
     go_wp2_with fail
     clear a0 a1 a9 ua bz aP;refine a_7 (by kernel_rfl) ?_;refine seg (fun _ W=>Bw O W) (Tq 3 s O.heap.size) 7 [⟨0,68,LitX 3 O.heap.size []⟩,⟨4,72,RowX 3 O.heap.size (itl (P.take s))⟩,⟨6,74,LitX 3 O.heap.size [(k:Int)]⟩,⟨7,75,u_2 O.heap.size (itl (P.take s)++[(k:Int)])⟩] 0 11 102 rfl rfl (by kernel_rfl) (by rfl) ?_ ?_ ?_ ?_ ?_ ?_
     ·exact fun b W W' h hb=>a_c h hb
     ·exact ⟨rfl,rfl,rfl,Nat.le_refl _,fun _ _=>rfl⟩
     ·exact .inl ⟨_,(mC (mC (mC mS))),rfl⟩
     ·exact upC (fun _ _ _=>LitX.up) (upC (fun _ _ _=>RowX.up) (upC (fun _ _ _=>LitX.up) (upC (fun _ _ _=>OwnK.up) upN)))
     ·intro e he bP v W W' h hC hT;simp only [mem_cons,not_mem_nil,or_false] at he;rcases he with rfl|rfl|rfl|rfl
      ·exact LitX.tq h (by simp) hT
      ·exact RowX.tq h bB.out hT
      ·exact LitX.tq h (by simp) hT
      ·exact absurd rfl bP
     apply Exists.intro;refine ⟨fun x=>?_,?_,?_⟩
     ·simp only [drop_succ_cons,drop_zero,take_succ_cons,take_zero];refine a_U rfl (by decide) rfl ?_ ?_
      ·intro b F hF hf d;have hFc:=hF.cls;simp [a_j,a_e,go_sem];exact ⟨h_K _ _ [] (F d) (hFc d).size,a_a _ _⟩
      iterate 2
       (try simp only [a_v])
       apply d_n;rfl;rfl
       ·intro b F hF hf K hK hFc
        go_big_quiet_op
        exact hK
      (try simp only [a_v])
      apply d_n;rfl;rfl
      ·intro b F hF hf K hK hFc;have kA:=a5.1
       go_big_quiet_op
       exact hK
      (try simp only [a_v])
      refine a_U rfl (by decide) rfl ?_ ?_
      ·intro b F hF hf d;have hFc:=hF.cls;have h9:=hf _ mS (by rfl) d;obtain ⟨v8,w8,am,ap,ai⟩:=u_D e_g (by decide) 22 (F d) O.heap.size _ h9 (hFc d).size _ _ (bl.out (F d) (a_c L.out (hFc d))).1 (by rw [a_p,length_take];omega);simp [a_j,a_e,execOp,resolve,invoke,builtin,Act.eval,am,Result.andThen];exact ⟨ap,ai⟩
      (try simp only [a_v])
      apply d_n;rfl;rfl
      ·intro b F hF hf K hK hFc
       go_big_quiet_op
       exact hK
      (try simp only [a_v])
      refine a_U rfl (by decide) rfl ?_ ?_
      ·intro b F hF hf d;have hFc:=hF.cls;simp [a_j,a_e,go_sem];exact ⟨h_K _ _ [(k:Int)] (F d) (hFc d).size,a_a _ _⟩
      (try simp only [a_v])
      refine c_P rfl rfl rfl ?_ ?_
      ·intro W hW hf;have h4:=hf _ (mC mS) (by rfl) W;have h6:=hf _ (mC (mC mS)) (by rfl) W;obtain ⟨v8,w8,am,ap,af⟩:=u_1 e_g (by decide) 22 W O.heap.size _ _ h4 (Below.size hW) _ _ h6 (by rw [a_p,length_take];omega);rw [bB.out] at af;simp [b_i,a_Z,execOp,resolve,invoke,builtin,Act.eval,am,Result.andThen];exact ⟨ap,Tq.below hW af,af⟩
      iterate 2
       (try simp only [a_v])
       apply d_n;rfl;rfl
       ·intro b F hF hf K hK hFc
        go_big_quiet_op
        exact hK
      (try simp only [a_v])
      apply d_n;rfl;rfl
      ·intro b F hF hf K hK hFc;have kB:=a5.2
       go_big_quiet_op
       exact hK
      (try simp only [a_v])
      refine e_b ?_;exact rfl
     ·intro x;simp only [b_q,foldl_cons,foldl_nil,a_v]
     ·intro w4 xs bA hf;refine c_z 11 (by kernel_rfl) ?_;simp only [drop_succ_cons,drop_zero];have h7:=hf _ (mC (mC (mC mS)));obtain ⟨x0,e0⟩:∃ q,xs 0=q:=⟨_,rfl⟩
      obtain ⟨x4,e4⟩:∃ q,xs 4=q:=⟨_,rfl⟩
      obtain ⟨x6,e6⟩:∃ q,xs 6=q:=⟨_,rfl⟩
      obtain ⟨x7,e7⟩:∃ q,xs 7=q:=⟨_,rfl⟩
      simp only [e7] at h7;simp only [e0,e4,e6,e7];have aB:Hid (Bw O w4):=bA;have bI:Hid (OwnK .i64 3 w4 O.heap.size x7 (itl (P.take s)++[(k:Int)])):=h7;have bk:=bl.out w4 (a_c L.out aB);have bJ:Hid (Nums .i64 w4 (.slice YB (np - s) (cp - s)) (itl (P.drop s))):=bk.2;have bD:Hid ((itl (P.take s)++[(k:Int)]).length+(itl (P.drop s)).length<=1073741824):=by show _<=_;rw [length_append,a_p,a_p,length_take,length_drop,length_singleton];have:=HP.2.1;omega
      have ub:=aZ.out.up aB;clear hf h7 bk bA e0 e4 e6 e7;go_wp2_with (at_builtin;refine a_x e_g (by decide) rfl (.tmp 75) (.tmp 78) rfl O.heap.size _ _ rfl bI.out _ _ rfl bJ.out bD.out aB.size O aB ?_;intro v5 w5 H5 B5;obtain ⟨b0,b1,_,_⟩:=aZ.out.up B5;have b9:=a_b b0;obtain ⟨pq,bp,cq,rfl,_⟩:=H5.out.nums.lst)
      have bQ:Hid (OwnK .i64 3 w5 O.heap.size (.slice pq bp cq) (itl (o_e P s k))):=by
       show OwnK _ _ _ _ _ _;have:itl (o_e P s k)=itl (P.take s)++[(k:Int)]++itl (P.drop s):=by unfold o_e;rw [g_4,append_assoc];rfl
       rw [this];exact H5.out
      have bE:Hid (Bw O w5):=B5;have aa:=g_c A.1 s A.2.1 I k HP.2.2 (by rw [A.2.2.2.2.2.2.1];exact bq);have aW:=q_4 A.1 s A.2.1 I k HP.2.2 (by rw [A.2.2.2.2.2.2.1];exact bq);have ar:=j_c A.1 s A.2.1 I k HP.2.2;rw [HP.1] at aa ar;rw [A.2.2.2.2.2.2.1] at ar aW;obtain ⟨J,eJ⟩:∃ J,(I / a_f (a.drop (s+1))*C+k)*a_f (a.drop (s+1))+I % a_f (a.drop (s+1))=J:=⟨_,rfl⟩
      rw [eJ] at ar aW
      have bg:RI (itl (o_e P s k)):=fun y hy=>by
       obtain ⟨z,hz,rfl⟩:=mem_map.1 hy;obtain ⟨i,hi,rfl⟩:=mem_iff_getElem.1 hz;have bj:i < a.length:=by rw [<- d_M aa];exact hi
       have:=d_N aa i _ _ (getElem?_eq_getElem bj) (getElem?_eq_getElem hi);have h2:=A.1.le _ (getElem_mem bj);omega
      have cT:=q_D (.slice (some ⟨q,o,none⟩) n c) (.slice pq bp cq) (itl a) (itl (o_e P s k)) A.2.2.2.2.2.2.2.2.2.2.2.2.2 bg w5 (bM.out.up (a_c (a_c ab.1 L.out) B5)) bQ.out.nums
      have eB:atB (itl a) (itl (o_e P s k))=true:=by
       unfold atB;rw [a_n,decide_eq_true A.1,g_F aa];rfl
      have eI:atI (itl a) (itl (o_e P s k))=(J:Int):=by
       unfold atI;rw [if_pos eB,a_n,a_n,ar]
      rw [eI,eB] at cT;have ce:(J:Int) < (n2:Int):=by have:=HX.1;have:=A.2.2.2.1;omega
      have HJ:Hid ((I / a_f (a.drop (s+1))*C+k)*a_f (a.drop (s+1))+I % a_f (a.drop (s+1))=J/\J < n2):=⟨eJ,by omega⟩
      clear aa aW ar eJ bg eB eI H5 B5;go_wp2_with fail
      refine cT.mono ?_;rintro e w6 ⟨rfl,dn,rfl⟩;generalize a2:drewN w5 dn=w6;have az:Hid (Bw O w6):=by show Below _ _ _;rw [<- a2];exact a_i bE dn
      clear a2 cT b0 b1 b9;have L6:Hid (LiesS w6 H.heap.size (b_C (fun k=>x.getD ((I / a_f (a.drop (s+1))*C+k)*a_f (a.drop (s+1))+I % a_f (a.drop (s+1))) 0) k)):=L0.out.up az;have x6:=aZ.out.up az;have aF:Bw w w6:=a_c (a_c ab.1 L.out) az;obtain ⟨qx,ox,bS,bb⟩:=HX.2 J HJ.2;subst bS;have aq:=a_d bb aF;have bV:=a_b aq;have av:=b_y A.2.2.2.2.2.2.2.2.2.2.2.1 J;have R:=n_4 A.2.2.2.2.2.2.2.2.2.2.2.1 (fun k=>(I / a_f (a.drop (s+1))*C+k)*a_f (a.drop (s+1))+I % a_f (a.drop (s+1))) k (by omega) _ av;have eS:b_C (fun k=>x.getD ((I / a_f (a.drop (s+1))*C+k)*a_f (a.drop (s+1))+I % a_f (a.drop (s+1))) 0) (k+1)=b_C (fun k=>x.getD ((I / a_f (a.drop (s+1))*C+k)*a_f (a.drop (s+1))+I % a_f (a.drop (s+1))) 0) k+x.getD J 0:=by rw [<- HJ.1];rfl
      obtain ⟨S0,ag⟩:∃ S0,b_C (fun k=>x.getD ((I / a_f (a.drop (s+1))*C+k)*a_f (a.drop (s+1))+I % a_f (a.drop (s+1))) 0) k=S0:=⟨_,rfl⟩
      rw [ag] at L6 eS;obtain ⟨X,eX⟩:∃ X,x.getD J 0=X:=⟨_,rfl⟩
      rw [eX] at aq av eS;have R:(S0.natAbs:Int)+(X.natAbs:Int) < 115792089237316195423570985008687907853269984665640564039457584007913129639936:=by rw [<- ag,<- eX];exact R
      have bL:Hid (b_C (fun k=>x.getD ((I / a_f (a.drop (s+1))*C+k)*a_f (a.drop (s+1))+I % a_f (a.drop (s+1))) 0) (k+1)=S0+X):=eS;obtain ⟨r,u0,u1,u2,u3,aV,q0,q1,q2,q3,q4,z0,z1,z2,z3,z4,hN⟩:=L6.out;obtain ⟨zp,hp,bs⟩:=Rf.fromD av;obtain ⟨pr,v0,v1,v2,v3,rfl,hp⟩:=hp.agg;obtain ⟨zs,hs,bi⟩:=Rf.plusD hN hp R;obtain ⟨sr,t0,t1,t2,t3,rfl,hs⟩:=hs.agg;have bF:Hid (Rf.IsS (.agg #[.bool sr,.int .u64 t0,.int .u64 t1,.int .u64 t2,.int .u64 t3]) (S0+X)):=hs;obtain ⟨b0,b1,_,_⟩:=x6;have b9:=a_b b0;clear eX ag eS R av bb hN hp hs aF;go_wp2_with fail
      apply e_K 8 102 (by kernel_rfl) rfl rfl (by kernel_rfl)
      ·intro F hF hFc hFf;simp only [take_succ_cons,take_zero]
       repeat (go_big_quiet_step (first|(go_at_call 107;with_reducible exact hF.call (bs _))|(go_at_call 100;with_reducible exact hF.call (bi _))))
       refine wpQuiet_nil ?_;exact rfl
      ·intro W2 aj;simp only [drop_succ_cons,drop_zero];have M:=L6.out.up aj;have N0:Hid (LiesS (((((W2.setCell ⟨H.heap.size,0,none⟩ (.bool sr)).setCell ⟨H.heap.size,1,none⟩ (.int .u64 t0)).setCell ⟨H.heap.size,2,none⟩ (.int .u64 t1)).setCell ⟨H.heap.size,3,none⟩ (.int .u64 t2)).setCell ⟨H.heap.size,4,none⟩ (.int .u64 t3)) H.heap.size (S0+X)):=M.set bF.out;have B2:Hid (Bw H (((((W2.setCell ⟨H.heap.size,0,none⟩ (.bool sr)).setCell ⟨H.heap.size,1,none⟩ (.int .u64 t0)).setCell ⟨H.heap.size,2,none⟩ (.int .u64 t1)).setCell ⟨H.heap.size,3,none⟩ (.int .u64 t2)).setCell ⟨H.heap.size,4,none⟩ (.int .u64 t3))):=d_X (a_c (a_c L.out az) aj) _ (Nat.le_refl _) _ _ _ _ _;obtain ⟨r',cD,cu,cw,cz,b4,b7,ca,ct,cc,cj,cv,cC,cy,cr,ch,_⟩:=M;clear aj bs bi q0 q1 q2 q3 q4 z0 z1 z2 z3 z4 aV L6 L0 aq bV b0 b1 b9;go_wp2;go_roundg (C - (k+1))
       case measure=>omega
       case rel=>exact ⟨k+1,by omega,rfl,by first|rfl|simp,by rw [bL.out];exact N0,B2⟩
    ·obtain rfl:k=C:=by omega
     have eZ:V.getD I 0=hold (b_C (fun j=>x.getD ((I / a_f (a.drop (s+1))*k+j)*a_f (a.drop (s+1))+I % a_f (a.drop (s+1))) 0) k):=by
      rw [<- A.2.2.2.2.2.2.2.2.1,m_z a s x I HP.2.2,A.2.2.2.2.2.2.1];rfl
     obtain ⟨S0,ag⟩:∃ S0,b_C (fun j=>x.getD ((I / a_f (a.drop (s+1))*k+j)*a_f (a.drop (s+1))+I % a_f (a.drop (s+1))) 0) k=S0:=⟨_,rfl⟩
     rw [ag] at L0 eZ;obtain ⟨Z,aY⟩:∃ Z,V.getD I 0=Z:=⟨_,rfl⟩
     have HZ:Hid (V.getD I 0=Z):=aY;obtain ⟨r,u0,u1,u2,u3,aV,q0,q1,q2,q3,q4,z0,z1,z2,z3,z4,hN⟩:=L0.out
     have bw:∀ W,Calls Tryz.prog 102 #[.agg #[.bool r,.int .u64 u0,.int .u64 u1,.int .u64 u2,.int .u64 u3]] W fun e w'=>e = .returned (.int .i64 Z)/\Bw W w':=fun W=>by
      rw [<- aY,eZ];exact Rf.heldS _ _ hN W
     have bG:Cel O b8 (.slice p8 n8 c8) (.slice (some ⟨g,0,none⟩) N cg):=(XT.out.stay ab.2.1 (by have:=Hg.out;omega)).up L.out;obtain ⟨t0,t1,_,_⟩:=bG;have t9:=a_b t0;clear eZ aY ag hN aP;go_wp2_with fail
     apply e_K 6 102 (by kernel_rfl) rfl rfl (by kernel_rfl)
     ·intro F hF hFc hFf;simp only [take_succ_cons,take_zero]
      repeat (go_big_quiet_step (first|(go_at_call 102;with_reducible exact hF.call (bw _))))
      refine wpQuiet_nil ?_;exact rfl
     ·intro W2 aj;simp only [drop_succ_cons,drop_zero];have ac:=a_c L.out aj;have aS:=br.out.up (a_c ab.2.2 ac);obtain ⟨bv,cB⟩:=aS.cell (by rw [a_y];exact A.2.2.2.2.2.2.2.2.2.1) I aN;have cl:=a_b bv
      have H5:Hid (OwnK .i64 48 (W2.setCell ⟨g,I,none⟩ (.int .i64 Z)) g (.slice (some ⟨g,0,none⟩) N cg) (b_l V (I+1))):=by
       have:=aS.store (by rw [a_y];exact A.2.2.2.2.2.2.2.2.2.1) I Z;rw [<- HZ.out,a_9 V I (by rw [A.2.2.2.2.2.2.2.2.2.1];exact aN)] at this;rw [<- HZ.out];exact this
      have bR:w.heap.size<=g:=by have:=Hg.out;omega
      have H6:Hid (Bw w (W2.setCell ⟨g,I,none⟩ (.int .i64 Z))/\Stay g W9 (W2.setCell ⟨g,I,none⟩ (.int .i64 Z))):=⟨(a_c ab.1 ac).setCell (p:=⟨g,I,none⟩) bR _,(ab.2.1.up ac).set _ _⟩
      clear aj ac aS bw q0 q1 q2 q3 q4 z0 z1 z2 z3 z4 aV L0 L t0 t1 t9 a0 a1 a9 ua bz;go_wp2;go_roundg (N - (I+1))
      case measure=>omega
      case rel=>exact ⟨I+1,by omega,rfl,by first|rfl|simp,H5,H6⟩
  ·obtain rfl:I=N:=by omega
   have ao:=br.out;rw [<- A.2.2.2.2.2.2.2.2.2.1,a_0,A.2.2.2.2.2.2.2.2.2.1] at ao;have xR:Cel R1 (w.heap.size+1) (.slice none 0 0) (.slice none 0 0):=(XR.out.up aR.2).stay ae.2 (by have:=Hg.out;omega);have o1:=be.1.stay ae.2 be.2
   have HF:Hid (TRes (set2 R1 (w.heap.size+1) (.slice p8 n8 c8) (.slice (some ⟨g,0,none⟩) I cg)) w.heap.size (.agg #[.slice p8 n8 c8,.slice (some ⟨g,0,none⟩) I cg]) (itl (a_R a s)) V/\Bw w (set2 R1 (w.heap.size+1) (.slice p8 n8 c8) (.slice (some ⟨g,0,none⟩) I cg))):=
    ⟨(TRes.set (B:=W0.heap.size) (o1.low Hg.2.2.2) (ao.low Hg.1) Hg.2.1).low (by have:=Hg.out;omega),a_q ae.1 _ (by omega) _ _⟩
   have cf:=xR.set (.slice p8 n8 c8) (.slice (some ⟨g,0,none⟩) I cg);obtain ⟨r0,r1,r2,r3⟩:=xR;obtain ⟨y0,y1,_,_⟩:=cf;clear ao o1;go_wp2;exact bodyPost_ret (v:=.tuple #[.agg #[.slice p8 n8 c8,.slice (some ⟨g,0,none⟩) I cg],.int .i64 0]) (by simp [results,Tryz.results71,go_sem,y0,y1]) rfl ⟨_,rfl,HF.out⟩
end Go.Proofs.YtkfpainpomobfaaGreatDoor.Wd
