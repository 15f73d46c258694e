/- Sums of products gathered into a tensor: -/
import Derived.Test.YtjlofobnmjompaaGreatDoorP13
set_option linter.unusedVariables false
set_option linter.unusedSimpArgs false
set_option maxHeartbeats 16000000
set_option maxRecDepth 16000
namespace Go.Proofs.YtjlofobnmjompaaGreatDoor.Wd
open Go.RowKit Fx
theorem s_T:∃ D,Tryz.prog.info? 209=some D/\D.zero=some (.agg #[.int .i64 0,.int .u64 0,.int .i64 0,.int .u64 0])/\D.size=4/\D.bytes=32:=by
 have h:(Tryz.prog.info? 209).map (fun i=>(i.zero,i.size,i.bytes))=some (some (.agg #[.int .i64 0,.int .u64 0,.int .i64 0,.int .u64 0]),4,32):=by kernel_rfl
 cases E:Tryz.prog.info? 209 with
 | none=>rw [E] at h;cases h
 | some i=>
  rw [E] at h;simp only [Option.map_some,Option.some.injEq,Prod.mk.injEq] at h;exact ⟨i,rfl,h.1,h.2.1,h.2.2⟩
/-- Sums that were just made: all 0. -/
theorem m_h {W:World} {B g n:Nat} {e:TypeId} (h:W.ownsRow B e 4 (.slice (some ⟨g,0,none⟩) n n) n (madeCells (Value.agg #[.int .i64 0,.int .u64 0,.int .i64 0,.int .u64 0]).cells (n*4)).toList):∀ i,i < n->SumAt W g (i*4) 0 0:=by
 intro i hi
 have hf:∀ j,W.frozen? ⟨g,j,none⟩=false:=by
  intro j;rcases h.2 with ⟨H,_⟩|⟨q,cap,R,H,h2,h3,_⟩
  ·cases H
  ·cases H;unfold World.frozen?;simp [h3]
 have hz:∀ r,r < 4->(madeCells (Value.agg #[.int .i64 0,.int .u64 0,.int .i64 0,.int .u64 0]).cells (n*4)).toList[i*4+r]?=(#[Value.int .i64 0,.int .u64 0,.int .i64 0,.int .u64 0]:Array Value)[r]?:=by
  intro r I;have U:(Value.agg #[.int .i64 0,.int .u64 0,.int .i64 0,.int .u64 0]).cells=#[Value.int .i64 0,.int .u64 0,.int .i64 0,.int .u64 0]:=rfl;unfold madeCells;rw [U,Array.getElem?_toList,Array.getElem?_map,Array.getElem?_range];rw [if_pos (by omega)];have E:(i*4+r) % 4=r:=by omega
  simp only [Option.map_some]
  match r,I with
  | 0,_=>rw [show (#[Value.int .i64 0,.int .u64 0,.int .i64 0,.int .u64 0]:Array Value).size=4 from rfl,E];rfl
  | 1,_=>rw [show (#[Value.int .i64 0,.int .u64 0,.int .i64 0,.int .u64 0]:Array Value).size=4 from rfl,E];rfl
  | 2,_=>rw [show (#[Value.int .i64 0,.int .u64 0,.int .i64 0,.int .u64 0]:Array Value).size=4 from rfl,E];rfl
  | 3,_=>rw [show (#[Value.int .i64 0,.int .u64 0,.int .i64 0,.int .u64 0]:Array Value).size=4 from rfl,E];rfl
 have D:∀ r u,r < 4->(#[Value.int .i64 0,.int .u64 0,.int .i64 0,.int .u64 0]:Array Value)[r]?=some u->W.cell? ⟨g,i*4+r,none⟩=some u:=by
  intro r u I V;have:=World.ownsRow.cells h rfl (i*4+r) u (by rw [hz r I];exact V);rw [a_u,Nat.zero_add] at this;exact this
 have J:=D 0 _ (by omega) rfl;have O:=D 1 _ (by omega) rfl;have M:=D 2 _ (by omega) rfl;have c3:=D 3 _ (by omega) rfl;have L:=b_w J;exact ⟨0,0,by omega,by omega,by omega,by omega,by omega,⟨L,J,O,hf _,hf _⟩,L,M,c3,hf _,hf _⟩
theorem LieA.stay {W W':World} {g b o:Nat} {x:Int} (h:LieA W b o x) (D:Stay g W W') (E:b≠g):LieA W' b o x:=
 ⟨Nat.lt_of_lt_of_le h.1 D.size,D.cell h.2.1 E,D.cell h.2.2.1 E,by rw [D.frozen h.1 E];exact h.2.2.2.1,by rw [D.frozen h.1 E];exact h.2.2.2.2⟩
theorem SumAt.stay {W W':World} {g b o m:Nat} {T:Int} (h:SumAt W b o m T) (E:Stay g W W') (D:b≠g):SumAt W' b o m T:=by
 obtain ⟨A,B,e,L,J,O,H,M,I⟩:=h;exact ⟨A,B,e,L,J,O,H,M.stay E D,I.stay E D⟩
/-- The tensor of the sums. -/
def f_1 (d:List Int):Int:=if goodN (ntl d) then 0 else 2
def p_d (d:List Int) (F:Nat->Int):List Int:=if goodN (ntl d) then (List.range (a_e (ntl d))).map fun i=>rnd (F i) else []
theorem b_B (K:FuncId) (aL:∀ args W,(callFunc K args).run Tryz.prog W = .ok (.enter K args) W) (u0 u1 u2:Value) (p:Option Addr) (n c:Nat) (d:List Int) (hd:RI d) (F:Nat->Int) (M:Nat) (hM:M<=1073741824) (w:World) (hT:Hid (Tz w)) (h1:Nums .i64 w (.slice p n c) d)
  (hK:goodN (ntl d)->∀ W b,Below w.heap.size w W->w.heap.size<=b->b < W.heap.size->(∀ i,i < a_e (ntl d)->SumAt W b (i*4) 0 0)->Calls Tryz.prog K #[.slice (some ⟨b,0,none⟩) (a_e (ntl d)) (a_e (ntl d)),u0,u1,u2] W fun e w'=>e = .returned (.tuple #[])/\(∀ i,i < a_e (ntl d)->SumAt w' b (i*4) M (F i))/\Stay b W w'/\Below b W w'):
  Calls Tryz.prog 140 #[.slice p n c,.func (.func K) #[] #[u0,u1,u2]] w fun e w'=>∃ v',e = .returned (.tuple #[v',.int .i64 (f_1 d)])/\TRes w' w.heap.size v' (d_V d) (p_d d F)/\Below w.heap.size w w':=by
 have cN:=fun W (hW:Below w.heap.size w W)=>c_O _ d hd 0 W (h1.up hW);haveI:Nonempty World:=⟨w⟩
 by_cases U:goodN (ntl d)
 ·have e1:l_3 d=0/\d_V d=d/\l_4 d 0=List.replicate (a_e (ntl d)) 0/\f_1 d=0/\p_d d F=(List.range (a_e (ntl d))).map fun i=>rnd (F i):=⟨if_pos U,if_pos U,if_pos U,if_pos U,if_pos U⟩
  rw [e1.1,e1.2.1,e1.2.2.1] at cN;rw [e1.2.1,e1.2.2.2.1,e1.2.2.2.2];have ao:=hK U;have hN:1<=a_e (ntl d)/\a_e (ntl d)<=4096:=⟨U.pos,U.2.2⟩
  obtain ⟨N,eN⟩:∃ N,a_e (ntl d)=N:=⟨_,rfl⟩
  rw [eN] at cN ao hN ⊢;have aN:1<=(N:Int)/\(N:Int)<=4096:=by omega
  obtain ⟨V,eV⟩:∃ V,(List.range N).map (fun i=>rnd (F i))=V:=⟨_,rfl⟩
  rw [eV];have HV:Hid (V.length=N/\∀ i,i < N->V.getD i 0=rnd (F i)):=⟨by rw [<- eV];simp,fun i hi=>by rw [<- eV];exact a_I _ _ _ _ hi⟩
  have HK:Hid (∀ W b,Below w.heap.size w W->w.heap.size<=b->b < W.heap.size->(∀ i,i < N->SumAt W b (i*4) 0 0)->Calls Tryz.prog K #[.slice (some ⟨b,0,none⟩) N N,u0,u1,u2] W fun e w'=>e = .returned (.tuple #[])/\(∀ i,i < N->SumAt w' b (i*4) M (F i))/\Stay b W w'/\Below b W w'):=ao;have aH:Hid (M<=1073741824):=hM;clear e1 hK ao eN eV U hd h1 hM;obtain ⟨i0,hi,az,aE,aw⟩:=s_T;go_enter Tryz.func140,Tryz.ntmps140;go_wp2_with fail
  generalize J:World.alloc _ _=W0;have B0:Below w.heap.size w W0:=by rw [<- J];exact a_b w _
  have XR:Hid (Cel W0 w.heap.size (.slice none 0 0) (.slice none 0 0)):=a_F J (by simp [go_sem]);have ab:Hid (Below w.heap.size w W0/\w.heap.size < W0.heap.size):=⟨B0,a_a XR.out.1⟩
  clear J B0;refine (cN W0 ab.out.1).mono ?_;rintro e w1 ⟨v1,rfl,⟨s1,t1,rfl,ac,H⟩,O⟩;obtain ⟨R,L,c1,rfl,_⟩:=ac.nums.lst;obtain ⟨D,cv,rfl,aB⟩:=H.at (by rw [List.length_replicate];omega)
  rw [List.length_replicate] at H ⊢;obtain ⟨cs,fz,aq⟩:=H.obj;have ak:Off D (.slice R L c1):=ac.off_type aq (by decide);go_wp2_with (at_make;generalize ap:World.alloc _ _=W2;refine wpList_make_full W2 rfl (.tmp 20) (.tmp 20) 206 rfl W2.heap.size 209 i0 _ 4 Tryz.underlying206 hi az aE .i64 .i64 N N N rfl rfl rfl rfl (by rw [aw];omega) (by unfold maxLen;omega) (Nat.le_refl _) ?_;intro w3 aa ae;have B3:Below W2.heap.size W2 w3:=Below.grown (Below.refl _ _) ae (Nat.le_refl _) (fun j hj=>by cases hj);have H3:Hid (∀ i,i < N->SumAt w3 W2.heap.size (i*4) 0 0):=m_h aa;clear aa ae)
  have B2:Below w1.heap.size w1 W2:=by rw [<- ap];exact a_b w1 _
  have XT:Hid (Cel W2 w1.heap.size (.slice R L c1) (.slice (some ⟨D,0,none⟩) N cv)):=by show Cel _ _ _ _;unfold Cel;rw [<- ap];simp [go_sem]
  have aD:Hid (OwnK .i64 3 W2 W0.heap.size (.slice R L c1) d/\OwnK .i64 23 W2 W0.heap.size (.slice (some ⟨D,0,none⟩) N cv) (b_I V 0)/\Off D (.slice R L c1)/\W0.heap.size<=D):=⟨ac.up B2,by rw [a_1,HV.out.1];exact H.up B2,ak,aB⟩
  have aj:Hid (Below w.heap.size w W2/\Below W0.heap.size W0 W2):=⟨a_c ab.out.1 (a_c O B2),a_c O B2⟩
  have Hg:Hid (w1.heap.size < W2.heap.size/\W0.heap.size<=w1.heap.size/\D < w1.heap.size/\w.heap.size < W0.heap.size):=⟨a_a XT.out.1,O.size,H.size,ab.out.2⟩
  obtain ⟨g6,e6⟩:∃ g,w1.heap.size=g:=⟨_,rfl⟩
  rw [e6] at XT Hg ⊢;clear ap B2 ac H O ak aB aq cN e6;have ad:Below w.heap.size w w3:=a_c aj.out.1 B3;refine (HK.out w3 W2.heap.size ad aj.out.1.size (H3.out 0 (by omega)).lt H3.out).mono ?_;rintro e w4 ⟨rfl,av,aC,I⟩;have aF:w.heap.size<=W2.heap.size:=aj.out.1.size;have aK:Hid (Below w.heap.size w w4):=ad.trans (I.mono aF)
  have af:Hid (OwnK .i64 3 w4 W0.heap.size (.slice R L c1) d/\OwnK .i64 23 w4 W0.heap.size (.slice (some ⟨D,0,none⟩) N cv) (b_I V 0)/\Off D (.slice R L c1)/\W0.heap.size<=D):=by
   have q:=aD.out;have g:=Hg.out;have hb:Below W2.heap.size w3 w4:=I;have aA:Below W2.heap.size W2 w4:=B3.trans hb;exact ⟨q.1.up aA,q.2.1.up aA,q.2.2⟩
  have ar:Hid (Cel w4 g6 (.slice R L c1) (.slice (some ⟨D,0,none⟩) N cv)):=XT.out.up (B3.trans I);have aI:Hid (Cel w4 w.heap.size (.slice none 0 0) (.slice none 0 0)):=(XR.out.up aj.out.2).up (B3.trans I);have au:Hid (∀ i,i < N->SumAt w4 W2.heap.size (i*4) M (F i)):=av;have aG:Hid (D < W2.heap.size/\g6 < W2.heap.size):=⟨by have:=Hg.out;omega,Hg.out.1⟩
  obtain ⟨gs,ax⟩:∃ g,W2.heap.size=g:=⟨_,rfl⟩
  rw [ax] at au aG ⊢;clear av aC I ad aF H3 B3 XT XR aD ax hi az aE aw i0;go_wp2_with fail
  go_loopg [27] N (fun gg i wr=>∃ (k:Nat),k<=N/\gg=N - k/\i = .int .i64 (k:Int)/\Hid (OwnK .i64 23 wr W0.heap.size (.slice (some ⟨D,0,none⟩) N cv) (b_I V k))/\Hid (Below w.heap.size w wr/\Stay D w4 wr))
  case atStart=>exact ⟨0,by omega,by omega,by first|rfl|simp,af.out.2.1,aK.out,Stay.refl _ _⟩
  case round=>
   obtain ⟨k,hk,aO,rfl,HO,E⟩:=hrel;obtain ⟨R1,aJ⟩:∃ R1:World,R1=wr:=⟨_,rfl⟩
   subst aJ;by_cases ah:k < N
   ·have aM:(k:Int) < (N:Int):=by omega
    have ag:Hid (SumAt R1 gs (k*4) M (F k)):=(au.out k ah).stay E.out.2 (by have:=aG.out;omega);obtain ⟨Z,eZ⟩:∃ Z,V.getD k 0=Z:=⟨_,rfl⟩
    have HZ:Hid (V.getD k 0=Z):=eZ
    have cz:∀ W,Below R1.heap.size R1 W->Calls Tryz.prog 176 #[.pointer (some ⟨gs,k*4,none⟩)] W fun e w'=>e = .returned (.int .i64 Z)/\Below W.heap.size W w':=fun W hW=>by
     rw [<- eZ,HV.out.2 k ah];exact n_6 gs (k*4) M (F k) aH.out W (Hid.up_tz hT (a_c E.out.1 hW)) (ag.out.up hW)
    obtain ⟨t0,t1,_,_⟩:=ar.out.stay E.out.2 (by have:=Hg.out;omega);have t9:=a_a t0;have s9:=ag.out.lt;clear eZ;go_wp2_with fail
    refine j_r 8 40 (by kernel_rfl) rfl rfl (by kernel_rfl) ?_;apply Exists.intro;refine ⟨?_,?_⟩
    ·intro F hF;have hFc:=hF.cell;have hFf:=hF.frozen;simp only [List.take_succ_cons,List.take_zero,List.eraseIdx_cons_succ,List.eraseIdx_cons_zero]
     repeat (go_big_quiet_step (first|(go_at_call 176;with_reducible exact hF.call (cz _ (hF.below _)))))
     refine wpQuiet_nil ?_;exact rfl
    ·intro W5 ai;simp only [List.drop_succ_cons,List.drop_zero];have an:=HO.out.up ai;obtain ⟨aa,aP⟩:=an.cell (by rw [a_A];exact HV.out.1) k ah;have aQ:=a_a aa
     have H5:Hid (OwnK .i64 23 (W5.setCell ⟨D,k,none⟩ (.int .i64 Z)) W0.heap.size (.slice (some ⟨D,0,none⟩) N cv) (b_I V (k+1))):=by
      have:=an.store (by rw [a_A];exact HV.out.1) k Z;rw [<- HZ.out,b_r V k (by rw [HV.out.1];exact ah)] at this;rw [<- HZ.out];exact this
     have ay:w.heap.size<=D:=by have:=Hg.out;have:=af.out.2.2.2;omega
     have H6:Hid (Below w.heap.size w (W5.setCell ⟨D,k,none⟩ (.int .i64 Z))/\Stay D w4 (W5.setCell ⟨D,k,none⟩ (.int .i64 Z))):=⟨(a_c E.out.1 ai).setCell (p:=⟨D,k,none⟩) ay _,(E.out.2.up ai).set _ _⟩
     clear ai an cz t0 t1 t9 s9 ag HO E ay;go_wp2;go_roundg (N - (k+1))
     case measure=>omega
     case rel=>exact ⟨k+1,by omega,rfl,by first|rfl|simp,H5,H6⟩
   ·obtain rfl:k=N:=by omega
    have am:=HO.out;rw [<- HV.out.1,b_g,HV.out.1] at am;have xR:=aI.out.stay E.out.2 (by have:=Hg.out;have:=af.out.2.2.2;omega);have xT:=ar.out.stay E.out.2 (by have:=Hg.out;omega);have o1:=af.out.1.stay E.out.2 af.out.2.2.1
    have HF:Hid (TRes (set2 R1 w.heap.size (.slice R L c1) (.slice (some ⟨D,0,none⟩) k cv)) w.heap.size (.agg #[.slice R L c1,.slice (some ⟨D,0,none⟩) k cv]) d V/\Below w.heap.size w (set2 R1 w.heap.size (.slice R L c1) (.slice (some ⟨D,0,none⟩) k cv))):=
     ⟨(TRes.set o1 am (by have:=Hg.out;omega)).low (by have:=Hg.out;omega),a_k E.out.1 _ (Nat.le_refl _) _ _⟩
    have cf:=xR.set (.slice R L c1) (.slice (some ⟨D,0,none⟩) k cv);obtain ⟨t0,t1,_,_⟩:=xT;obtain ⟨r0,r1,r2,r3⟩:=xR;obtain ⟨y0,y1,_,_⟩:=cf;have t9:=a_a t0;have r9:=a_a r0;go_wp2;exact bodyPost_ret (v:=.tuple #[.agg #[.slice R L c1,.slice (some ⟨D,0,none⟩) k cv],.int .i64 0]) (by simp [results,Tryz.results140,go_sem,y0,y1]) rfl ⟨_,rfl,HF.out⟩
 ·have e1:l_3 d=1/\d_V d = []/\l_4 d 0 = []/\f_1 d=2/\p_d d F = []:=⟨if_neg U,if_neg U,if_neg U,if_neg U,if_neg U⟩
  rw [e1.1,e1.2.1,e1.2.2.1] at cN;rw [e1.2.1,e1.2.2.2.1,e1.2.2.2.2];clear e1 hK U hd h1 hM;go_enter Tryz.func140,Tryz.ntmps140;go_wp2_with fail
  generalize J:World.alloc _ _=W0;have B0:Below w.heap.size w W0:=by rw [<- J];exact a_b w _
  have XR:Hid (Cel W0 w.heap.size (.slice none 0 0) (.slice none 0 0)):=a_F J (by simp [go_sem]);have ab:Hid (Below w.heap.size w W0):=B0;clear J B0;refine (cN W0 ab.out).mono ?_;rintro e w1 ⟨v1,rfl,⟨s1,t1,rfl,ac,H⟩,O⟩;obtain ⟨R,L,c1,rfl,_⟩:=ac.nums.lst;obtain ⟨p2,n2,c2,rfl,_⟩:=H.nums.lst;have xr:Cel (w1.alloc (.cells #[.slice R L c1,.slice p2 n2 c2] 64)) w.heap.size (.slice none 0 0) (.slice none 0 0):=(XR.out.up O).up (a_b w1 _);have BF:=a_k (a_c (a_c ab.out O) (a_b w1 (.cells #[.slice R L c1,.slice p2 n2 c2] 64))) w.heap.size (Nat.le_refl _) (.slice none 0 0) (.slice none 0 0);have cf:=xr.set (.slice none 0 0) (.slice none 0 0);obtain ⟨r0,r1,r2,r3⟩:=xr;obtain ⟨y0,y1,_,_⟩:=cf;go_wp2;exact bodyPost_ret (v:=.tuple #[.agg #[.slice none 0 0,.slice none 0 0],.int .i64 2]) (by simp [results,Tryz.results140,go_sem,y0,y1]) rfl ⟨_,rfl,TRes.none _ _,BF⟩
/-- What such a function value reads: the sums' slice in gb, two tensors' numbers by way of ga and gk; the sums lie in b. -/
def Mt (W:World) (b gb ga gk N:Nat) (pa:Option Addr) (na ca:Nat) (pk:Option Addr) (nk ck:Nat) (x y:List Int):Prop:=
 W.cell? ⟨gb,0,none⟩=some (.slice (some ⟨b,0,none⟩) N N)/\W.cell? ⟨ga,1,none⟩=some (.slice pa na ca)/\W.cell? ⟨gk,1,none⟩=some (.slice pk nk ck)/\Nums .i64 W (.slice pa na ca) x/\Nums .i64 W (.slice pk nk ck) y/\(gb≠b/\ga≠b/\gk≠b)/\Off b (.slice pa na ca)/\Off b (.slice pk nk ck)
theorem Mt.up {W W':World} {b L R gk N:Nat} {E:Option Addr} {J H:Nat} {O:Option Addr} {I M:Nat} {x y:List Int} (h:Mt W b L R gk N E J H O I M x y) (D:Below W.heap.size W W'):Mt W' b L R gk N E J H O I M x y:=
 ⟨a_d h.1 D,a_d h.2.1 D,a_d h.2.2.1 D,h.2.2.2.1.up D,h.2.2.2.2.1.up D,h.2.2.2.2.2⟩
theorem Mt.stay {W W':World} {b L R gk N:Nat} {E:Option Addr} {J H:Nat} {O:Option Addr} {I M:Nat} {x y:List Int} (h:Mt W b L R gk N E J H O I M x y) (D:Stay b W W'):Mt W' b L R gk N E J H O I M x y:=
 ⟨D.cell h.1 h.2.2.2.2.2.1.1,D.cell h.2.1 h.2.2.2.2.2.1.2.1,D.cell h.2.2.1 h.2.2.2.2.2.1.2.2,h.2.2.2.1.stay D h.2.2.2.2.2.2.1,h.2.2.2.2.1.stay D h.2.2.2.2.2.2.2,h.2.2.2.2.2⟩
/-- Sums that have met q. -/
def Sms (W:World) (b N q:Nat) (f:Nat->Int):Prop:=∀ i,i < N->SumAt W b (i*4) q (f i)
theorem Sms.up {W W':World} {b N q:Nat} {f:Nat->Int} (h:Sms W b N q f) (D:Below W.heap.size W W'):Sms W' b N q f:=fun i E=>(h i E).up D
theorem Sms.add {W W':World} {b N q j:Nat} {f D:Nat->Int} {Z:Int} (h:Sms W b N q f) (H:Near b (j*4) W W') (I:SumAt W' b (j*4) (q+1) (f j+Z)) (hf:∀ i,i < N->D i=if j=i then f i+Z else f i):Sms W' b N (q+1) D:=fun i E=>by
 rw [hf i E];by_cases e:j=i
 ·subst e;rw [if_pos rfl];exact I
 ·rw [if_neg e];exact ((h i E).near H (by omega)).more (by omega)
theorem m_i (b gb ga gk N m I H D:Nat) (T:Int) (pa:Option Addr) (na ca:Nat) (pk:Option Addr) (U ck:Nat) (x y:List Int) (hx:RI x) (hy:RI y) (hm:m<=1073741824) (hN:N<=4096) (hs:D < N) (ha:I < x.length) (hk:H < y.length) (aa:x.length<=4096) (ab:y.length<=4096) (w:World) (hM:Mt w b gb ga gk N pa na ca pk U ck x y) (hS:Hid (SumAt w b (D*4) m T)):
  Calls Tryz.prog 156 #[.int .i64 (I:Int),.int .i64 (H:Int),.int .i64 (D:Int),.pointer (some ⟨gb,0,none⟩),.pointer (some ⟨ga,0,none⟩),.pointer (some ⟨gk,0,none⟩)] w fun e L=>e = .returned (.tuple #[])/\SumAt L b (D*4) (m+1) (T+x.getD I 0*y.getD H 0)/\Near b (D*4) w L:=by
 obtain ⟨c0,c1,c2,J,M,_,_,_⟩:=hM;obtain ⟨_,_,_,e4,HX⟩:=J.lst;cases e4;obtain ⟨_,_,_,e4,HY⟩:=M.lst;cases e4;have lx:=HX.out.1;have ly:=HY.out.1;obtain ⟨q1,o1,rfl,V⟩:=HX.out.2 I (by omega);obtain ⟨q2,o2,rfl,d2⟩:=HY.out.2 H (by omega);have rX:=b_H hx I;have rY:=b_H hy H;obtain ⟨X,eX⟩:∃ X,x.getD I 0=X:=⟨_,rfl⟩
 obtain ⟨Y,eY⟩:∃ Y,y.getD H 0=Y:=⟨_,rfl⟩
 rw [eX] at rX V ⊢;rw [eY] at rY d2 ⊢;have cA:Hid (∀ W,Below w.heap.size w W->Calls Tryz.prog 144 #[.pointer (some ⟨b,D*4,none⟩),.int .i64 X,.int .i64 Y] W fun e L=>e = .returned (.tuple #[])/\SumAt L b (D*4) (m+1) (T+X*Y)/\Near b (D*4) W L):=fun W hW=>g_Q b (D*4) m T X Y hm rX rY W (hS.out.up hW);have ae:(D:Int) < (N:Int)/\(N:Int)<=4096:=by omega
 have ac:(I:Int) < (na:Int)/\(na:Int)<=4096:=by omega
 have ad:(H:Int) < (U:Int)/\(U:Int)<=4096:=by omega
 have l0:=a_a c0;have l1:=a_a c1;have l2:=a_a c2;have l3:=a_a V;have l4:=a_a d2;have l5:Hid (b < w.heap.size):=hS.out.lt;clear J M HX HY lx ly rX rY eX eY hx hy hs ha hk aa ab hm hN hS;haveI:Nonempty World:=⟨w⟩
 go_enter Tryz.func156,Tryz.ntmps156;go_wp2_with fail
 refine j_r 13 23 (by kernel_rfl) rfl rfl (by kernel_rfl) ?_;apply Exists.intro;refine ⟨?_,?_⟩
 ·intro F hF;have hFc:=hF.cell;have hFf:=hF.frozen;simp only [List.take_succ_cons,List.take_zero,List.eraseIdx_cons_succ,List.eraseIdx_cons_zero]
  repeat (go_big_quiet_step (fail))
  refine wpQuiet_nil ?_;exact rfl
 ·intro W1 E;simp only [List.drop_succ_cons,List.drop_zero];clear c0 c1 c2 V d2 l0 l1 l2 l3 l4;go_wp2_with fail
  refine (cA.out W1 E).mono ?_;rintro e w2 ⟨rfl,O,R⟩;have HE:Hid (SumAt w2 b (D*4) (m+1) (T+X*Y)/\Near b (D*4) w w2):=⟨O,(Near.of E l5.out).trans R⟩
  clear O R E cA;go_wp2
  go_end0
  exact ⟨rfl,HE.out⟩
theorem m_j (b gb ga gk N m D H I:Nat) (T:Int) (pa:Option Addr) (na ca:Nat) (pk:Option Addr) (U ck:Nat) (x y:List Int) (hx:RI x) (hy:RI y) (hm:m<=1073741824) (hN:N<=4096) (hs:D < N) (ha:I < x.length) (hk:H < y.length) (aa:x.length<=4096) (ab:y.length<=4096) (w:World) (hM:Mt w b gb ga gk N pa na ca pk U ck x y) (hS:Hid (SumAt w b (D*4) m T)):
  Calls Tryz.prog 143 #[.int .i64 (D:Int),.int .i64 (H:Int),.int .i64 (I:Int),.pointer (some ⟨gb,0,none⟩),.pointer (some ⟨ga,0,none⟩),.pointer (some ⟨gk,0,none⟩)] w fun e L=>e = .returned (.tuple #[])/\SumAt L b (D*4) (m+1) (T+x.getD I 0*y.getD H 0)/\Near b (D*4) w L:=by
 obtain ⟨c0,c1,c2,J,M,_,_,_⟩:=hM;obtain ⟨_,_,_,e4,HX⟩:=J.lst;cases e4;obtain ⟨_,_,_,e4,HY⟩:=M.lst;cases e4;have lx:=HX.out.1;have ly:=HY.out.1;obtain ⟨q1,o1,rfl,V⟩:=HX.out.2 I (by omega);obtain ⟨q2,o2,rfl,d2⟩:=HY.out.2 H (by omega);have rX:=b_H hx I;have rY:=b_H hy H;obtain ⟨X,eX⟩:∃ X,x.getD I 0=X:=⟨_,rfl⟩
 obtain ⟨Y,eY⟩:∃ Y,y.getD H 0=Y:=⟨_,rfl⟩
 rw [eX] at rX V ⊢;rw [eY] at rY d2 ⊢;have cA:Hid (∀ W,Below w.heap.size w W->Calls Tryz.prog 144 #[.pointer (some ⟨b,D*4,none⟩),.int .i64 X,.int .i64 Y] W fun e L=>e = .returned (.tuple #[])/\SumAt L b (D*4) (m+1) (T+X*Y)/\Near b (D*4) W L):=fun W hW=>g_Q b (D*4) m T X Y hm rX rY W (hS.out.up hW);have ae:(D:Int) < (N:Int)/\(N:Int)<=4096:=by omega
 have ac:(I:Int) < (na:Int)/\(na:Int)<=4096:=by omega
 have ad:(H:Int) < (U:Int)/\(U:Int)<=4096:=by omega
 have l0:=a_a c0;have l1:=a_a c1;have l2:=a_a c2;have l3:=a_a V;have l4:=a_a d2;have l5:Hid (b < w.heap.size):=hS.out.lt;clear J M HX HY lx ly rX rY eX eY hx hy hs ha hk aa ab hm hN hS;haveI:Nonempty World:=⟨w⟩
 go_enter Tryz.func143,Tryz.ntmps143;go_wp2_with fail
 refine j_r 13 23 (by kernel_rfl) rfl rfl (by kernel_rfl) ?_;apply Exists.intro;refine ⟨?_,?_⟩
 ·intro F hF;have hFc:=hF.cell;have hFf:=hF.frozen;simp only [List.take_succ_cons,List.take_zero,List.eraseIdx_cons_succ,List.eraseIdx_cons_zero]
  repeat (go_big_quiet_step (fail))
  refine wpQuiet_nil ?_;exact rfl
 ·intro W1 E;simp only [List.drop_succ_cons,List.drop_zero];clear c0 c1 c2 V d2 l0 l1 l2 l3 l4;go_wp2_with fail
  refine (cA.out W1 E).mono ?_;rintro e w2 ⟨rfl,O,R⟩;have HE:Hid (SumAt w2 b (D*4) (m+1) (T+X*Y)/\Near b (D*4) w w2):=⟨O,(Near.of E l5.out).trans R⟩
  clear O R E cA;go_wp2
  go_end0
  exact ⟨rfl,HE.out⟩
theorem m_k (b gb ga gk N m H D I:Nat) (T:Int) (pa:Option Addr) (na ca:Nat) (pk:Option Addr) (U ck:Nat) (x y:List Int) (hx:RI x) (hy:RI y) (hm:m<=1073741824) (hN:N<=4096) (hs:D < N) (ha:I < x.length) (hk:H < y.length) (aa:x.length<=4096) (ab:y.length<=4096) (w:World) (hM:Mt w b gb ga gk N pa na ca pk U ck x y) (hS:Hid (SumAt w b (D*4) m T)):
  Calls Tryz.prog 146 #[.int .i64 (H:Int),.int .i64 (D:Int),.int .i64 (I:Int),.pointer (some ⟨gb,0,none⟩),.pointer (some ⟨ga,0,none⟩),.pointer (some ⟨gk,0,none⟩)] w fun e L=>e = .returned (.tuple #[])/\SumAt L b (D*4) (m+1) (T+x.getD I 0*y.getD H 0)/\Near b (D*4) w L:=by
 obtain ⟨c0,c1,c2,J,M,_,_,_⟩:=hM;obtain ⟨_,_,_,e4,HX⟩:=J.lst;cases e4;obtain ⟨_,_,_,e4,HY⟩:=M.lst;cases e4;have lx:=HX.out.1;have ly:=HY.out.1;obtain ⟨q1,o1,rfl,V⟩:=HX.out.2 I (by omega);obtain ⟨q2,o2,rfl,d2⟩:=HY.out.2 H (by omega);have rX:=b_H hx I;have rY:=b_H hy H;obtain ⟨X,eX⟩:∃ X,x.getD I 0=X:=⟨_,rfl⟩
 obtain ⟨Y,eY⟩:∃ Y,y.getD H 0=Y:=⟨_,rfl⟩
 rw [eX] at rX V ⊢;rw [eY] at rY d2 ⊢;have cA:Hid (∀ W,Below w.heap.size w W->Calls Tryz.prog 144 #[.pointer (some ⟨b,D*4,none⟩),.int .i64 X,.int .i64 Y] W fun e L=>e = .returned (.tuple #[])/\SumAt L b (D*4) (m+1) (T+X*Y)/\Near b (D*4) W L):=fun W hW=>g_Q b (D*4) m T X Y hm rX rY W (hS.out.up hW);have ae:(D:Int) < (N:Int)/\(N:Int)<=4096:=by omega
 have ac:(I:Int) < (na:Int)/\(na:Int)<=4096:=by omega
 have ad:(H:Int) < (U:Int)/\(U:Int)<=4096:=by omega
 have l0:=a_a c0;have l1:=a_a c1;have l2:=a_a c2;have l3:=a_a V;have l4:=a_a d2;have l5:Hid (b < w.heap.size):=hS.out.lt;clear J M HX HY lx ly rX rY eX eY hx hy hs ha hk aa ab hm hN hS;haveI:Nonempty World:=⟨w⟩
 go_enter Tryz.func146,Tryz.ntmps146;go_wp2_with fail
 refine j_r 13 23 (by kernel_rfl) rfl rfl (by kernel_rfl) ?_;apply Exists.intro;refine ⟨?_,?_⟩
 ·intro F hF;have hFc:=hF.cell;have hFf:=hF.frozen;simp only [List.take_succ_cons,List.take_zero,List.eraseIdx_cons_succ,List.eraseIdx_cons_zero]
  repeat (go_big_quiet_step (fail))
  refine wpQuiet_nil ?_;exact rfl
 ·intro W1 E;simp only [List.drop_succ_cons,List.drop_zero];clear c0 c1 c2 V d2 l0 l1 l2 l3 l4;go_wp2_with fail
  refine (cA.out W1 E).mono ?_;rintro e w2 ⟨rfl,O,R⟩;have HE:Hid (SumAt w2 b (D*4) (m+1) (T+X*Y)/\Near b (D*4) w w2):=⟨O,(Near.of E l5.out).trans R⟩
  clear O R E cA;go_wp2
  go_end0
  exact ⟨rfl,HE.out⟩
theorem i_A (R L O wd st S:Nat) (hS:a_M L wd st=S) (h1:wd<=L) (h2:L<=4096) (h3:1<=st) (h4:st<=64) (h5:O*R*wd<=4096) (h6:O*S<=4096) (h7:R*L<=4096) (h8:O<=4096) (h9:R<=4096) (b gs U gk:Nat) (pa:Option Addr) (na ca:Nat) (pk:Option Addr) (V ck:Nat) (x y:List Int) (hx:RI x) (hy:RI y) (af:x.length=R*L) (ah:y.length=O*R*wd) (w:World)
  (hs:SlC w gs R L O wd st) (ai:w.cell? ⟨U,1,none⟩=some (.slice pa na ca)) (ad:w.cell? ⟨gk,1,none⟩=some (.slice pk V ck)) (nx:Nums .i64 w (.slice pa na ca) x) (ny:Nums .i64 w (.slice pk V ck) y) (aa:U≠b/\gk≠b) (fx:Off b (.slice pa na ca)) (fy:Off b (.slice pk V ck)) (hb:b < w.heap.size) (h0:Sms w b (O*S) 0 (fun _=>0)):
  Calls Tryz.prog 155 #[.slice (some ⟨b,0,none⟩) (O*S) (O*S),.pointer (some ⟨gs,0,none⟩),.pointer (some ⟨U,0,none⟩),.pointer (some ⟨gk,0,none⟩)] w fun e H=>e = .returned (.tuple #[])/\Sms H b (O*S) (O*R*S*wd) (fun i=>b_V (n_u L R S wd st x y i) R S wd (O*R*S*wd))/\Stay b w H/\Below b w H:=by
 have ae:O*R*S*wd<=1073741824:=by
  have q1:S<=4097:=by rw [<- hS];unfold a_M;have:=Nat.div_le_self (L - wd) st;omega
  have q2:O*R*S*wd=O*R*wd*S:=by rw [Nat.mul_assoc,Nat.mul_comm S wd,<- Nat.mul_assoc]
  rw [q2];exact Nat.le_trans (Nat.mul_le_mul h5 q1) (by decide)
 have ab:∀ n,n < S->n*st+wd<=L:=fun n hn=>by
  unfold a_M at hS;have:n<=(L - wd) / st:=by omega
  have:=(Nat.le_div_iff_mul_le (by omega)).1 this;omega
 have av:∀ (fn:Fn) (first cap:Array Value) (w:World),(Instr.makeFunc fn first cap).run Tryz.prog w = .ok (.func fn first cap) w:=fun _ _ _ _=>rfl;obtain ⟨z0,z1,z2,z3,z4⟩:=hs;have zl:=a_a z0
 have HE:Hid (∀ J I,I=w.alloc (.cells #[.slice (some ⟨b,0,none⟩) (O*S) (O*S)] 206)->J=w.heap.size->Calls Tryz.prog 142 #[.agg #[.int .i64 (R:Int),.int .i64 (L:Int),.int .i64 (O:Int),.int .i64 (wd:Int),.int .i64 (st:Int)],.func (.func 156) #[] #[.pointer (some ⟨J,0,none⟩),.pointer (some ⟨U,0,none⟩),.pointer (some ⟨gk,0,none⟩)]] I fun e H=>e = .returned (.tuple #[])/\(Sms H b (O*S) (O*R*S*wd) (fun i=>b_V (n_u L R S wd st x y i) R S wd (O*R*S*wd))/\Mt H b J U gk (O*S) pa na ca pk V ck x y)/\Stay b I H/\Below b I H):=fun J I eW ao=>by
  have D:Below w.heap.size w I:=by rw [eW];exact a_b w _
  have am:I.cell? ⟨J,0,none⟩=some (.slice (some ⟨b,0,none⟩) (O*S) (O*S)):=by rw [eW,ao];simp [go_sem]
  refine f_B _ (fun args W=>by simp [go_sem]) _ _ _ b R L O wd st S hS h1 h2 h3 h4 h5 h6 h7 h8 h9 (fun q W=>Sms W b (O*S) q (fun i=>b_V (n_u L R S wd st x y i) R S wd q)/\Mt W b J U gk (O*S) pa na ca pk V ck x y) (fun q W W' h D=>⟨h.1.up D,h.2.up D⟩) ?_ I (Nat.lt_of_lt_of_le hb D.size) ⟨h0.up D,am,a_d ai D,a_d ad D,nx.up D,ny.up D,⟨by omega,aa⟩,fx,fy⟩;intro o c n y' ho hc hn M W hI
  have ap:c*L+n*st+y' < R*L:=by
   have q1:=ab n hn;have q2:(c+1)*L<=R*L:=Nat.mul_le_mul_right L hc;rw [Nat.add_mul,Nat.one_mul] at q2;omega
  have ar:(o*R+c)*wd+y' < O*R*wd:=a_0 (a_0 ho hc) M;have ag:o*S+n < O*S:=a_0 ho hn
  have hq:((o*R+c)*S+n)*wd+y'<=1073741824:=by
   have:=a_0 (a_0 (a_0 ho hc) hn) M;omega
  refine (m_i b J U gk (O*S) (((o*R+c)*S+n)*wd+y') _ _ _ _ pa na ca pk V ck x y hx hy hq (by omega) ag (by rw [af];exact ap) (by rw [ah];exact ar) (by omega) (by omega) W hI.2 (hI.1 _ ag)).mono ?_;rintro e H ⟨e1,au,E⟩;refine ⟨e1,⟨hI.1.add E au ?_,hI.2.stay E.stay⟩,E.stay,E.below⟩;intro i hi;show b_V _ R S wd _=_;rw [e_z _ hc hn M];unfold n_u;by_cases e:o*S+n=i
  ·rw [if_pos e,if_pos e]
  ·rw [if_neg e,if_neg e,Int.add_zero]
 have an:Hid (b < w.heap.size):=hb;clear h0 ai ad nx ny fx fy hx hy af ah ae ab hS h5 h6 h7 hb aa;haveI:Nonempty World:=⟨w⟩
 obtain ⟨NN,aq⟩:∃ n,O*S=n:=⟨_,rfl⟩
 rw [aq] at HE ⊢;go_enter Tryz.func155,Tryz.ntmps155;go_wp2_with fail
 refine (HE.out _ _ rfl rfl).mono ?_;rintro e w1 ⟨rfl,⟨aj,_⟩,ac,ak⟩;have hU:=a_b w (.cells #[.slice (some ⟨b,0,none⟩) NN NN] 206);have HF:Hid (Sms w1 b NN (O*R*S*wd) (fun i=>b_V (n_u L R S wd st x y i) R S wd (O*R*S*wd))/\Stay b w w1/\Below b w w1):=⟨aj,(Stay.of hU).trans ac,(hU.mono (Nat.le_of_lt an.out)).trans ak⟩
 clear aj ac ak hU;go_wp2
 go_end0
 exact ⟨rfl,HF.out⟩
theorem i_B (R L O wd st S:Nat) (hS:a_M L wd st=S) (h1:wd<=L) (h2:L<=4096) (h3:1<=st) (h4:st<=64) (h5:O*R*wd<=4096) (h6:O*S<=4096) (h7:R*L<=4096) (h8:O<=4096) (h9:R<=4096) (b gs U gk:Nat) (pa:Option Addr) (na ca:Nat) (pk:Option Addr) (V ck:Nat) (x y:List Int) (hx:RI x) (hy:RI y) (af:x.length=O*S) (ah:y.length=O*R*wd) (w:World)
  (hs:SlC w gs R L O wd st) (ai:w.cell? ⟨U,1,none⟩=some (.slice pa na ca)) (ad:w.cell? ⟨gk,1,none⟩=some (.slice pk V ck)) (nx:Nums .i64 w (.slice pa na ca) x) (ny:Nums .i64 w (.slice pk V ck) y) (aa:U≠b/\gk≠b) (fx:Off b (.slice pa na ca)) (fy:Off b (.slice pk V ck)) (hb:b < w.heap.size) (h0:Sms w b (R*L) 0 (fun _=>0)):
  Calls Tryz.prog 141 #[.slice (some ⟨b,0,none⟩) (R*L) (R*L),.pointer (some ⟨gs,0,none⟩),.pointer (some ⟨U,0,none⟩),.pointer (some ⟨gk,0,none⟩)] w fun e H=>e = .returned (.tuple #[])/\Sms H b (R*L) (O*R*S*wd) (fun i=>b_V (inT L R S wd st x y i) R S wd (O*R*S*wd))/\Stay b w H/\Below b w H:=by
 have ae:O*R*S*wd<=1073741824:=by
  have q1:S<=4097:=by rw [<- hS];unfold a_M;have:=Nat.div_le_self (L - wd) st;omega
  have q2:O*R*S*wd=O*R*wd*S:=by rw [Nat.mul_assoc,Nat.mul_comm S wd,<- Nat.mul_assoc]
  rw [q2];exact Nat.le_trans (Nat.mul_le_mul h5 q1) (by decide)
 have ab:∀ n,n < S->n*st+wd<=L:=fun n hn=>by
  unfold a_M at hS;have:n<=(L - wd) / st:=by omega
  have:=(Nat.le_div_iff_mul_le (by omega)).1 this;omega
 have av:∀ (fn:Fn) (first cap:Array Value) (w:World),(Instr.makeFunc fn first cap).run Tryz.prog w = .ok (.func fn first cap) w:=fun _ _ _ _=>rfl;obtain ⟨z0,z1,z2,z3,z4⟩:=hs;have zl:=a_a z0
 have HE:Hid (∀ J I,I=w.alloc (.cells #[.slice (some ⟨b,0,none⟩) (R*L) (R*L)] 206)->J=w.heap.size->Calls Tryz.prog 142 #[.agg #[.int .i64 (R:Int),.int .i64 (L:Int),.int .i64 (O:Int),.int .i64 (wd:Int),.int .i64 (st:Int)],.func (.func 143) #[] #[.pointer (some ⟨J,0,none⟩),.pointer (some ⟨U,0,none⟩),.pointer (some ⟨gk,0,none⟩)]] I fun e H=>e = .returned (.tuple #[])/\(Sms H b (R*L) (O*R*S*wd) (fun i=>b_V (inT L R S wd st x y i) R S wd (O*R*S*wd))/\Mt H b J U gk (R*L) pa na ca pk V ck x y)/\Stay b I H/\Below b I H):=fun J I eW ao=>by
  have D:Below w.heap.size w I:=by rw [eW];exact a_b w _
  have am:I.cell? ⟨J,0,none⟩=some (.slice (some ⟨b,0,none⟩) (R*L) (R*L)):=by rw [eW,ao];simp [go_sem]
  refine f_B _ (fun args W=>by simp [go_sem]) _ _ _ b R L O wd st S hS h1 h2 h3 h4 h5 h6 h7 h8 h9 (fun q W=>Sms W b (R*L) q (fun i=>b_V (inT L R S wd st x y i) R S wd q)/\Mt W b J U gk (R*L) pa na ca pk V ck x y) (fun q W W' h D=>⟨h.1.up D,h.2.up D⟩) ?_ I (Nat.lt_of_lt_of_le hb D.size) ⟨h0.up D,am,a_d ai D,a_d ad D,nx.up D,ny.up D,⟨by omega,aa⟩,fx,fy⟩;intro o c n y' ho hc hn M W hI
  have ag:c*L+n*st+y' < R*L:=by
   have q1:=ab n hn;have q2:(c+1)*L<=R*L:=Nat.mul_le_mul_right L hc;rw [Nat.add_mul,Nat.one_mul] at q2;omega
  have ar:(o*R+c)*wd+y' < O*R*wd:=a_0 (a_0 ho hc) M;have aq:o*S+n < O*S:=a_0 ho hn
  have hq:((o*R+c)*S+n)*wd+y'<=1073741824:=by
   have:=a_0 (a_0 (a_0 ho hc) hn) M;omega
  refine (m_j b J U gk (R*L) (((o*R+c)*S+n)*wd+y') _ _ _ _ pa na ca pk V ck x y hx hy hq (by omega) ag (by rw [af];exact aq) (by rw [ah];exact ar) (by omega) (by omega) W hI.2 (hI.1 _ ag)).mono ?_;rintro e H ⟨e1,au,E⟩;refine ⟨e1,⟨hI.1.add E au ?_,hI.2.stay E.stay⟩,E.stay,E.below⟩;intro i hi;show b_V _ R S wd _=_;rw [e_z _ hc hn M];unfold inT;by_cases e:c*L+n*st+y'=i
  ·rw [if_pos e,if_pos e]
  ·rw [if_neg e,if_neg e,Int.add_zero]
 have an:Hid (b < w.heap.size):=hb;clear h0 ai ad nx ny fx fy hx hy af ah ae ab hS h5 h6 h7 hb aa;haveI:Nonempty World:=⟨w⟩
 obtain ⟨NN,ap⟩:∃ n,R*L=n:=⟨_,rfl⟩
 rw [ap] at HE ⊢;go_enter Tryz.func141,Tryz.ntmps141;go_wp2_with fail
 refine (HE.out _ _ rfl rfl).mono ?_;rintro e w1 ⟨rfl,⟨aj,_⟩,ac,ak⟩;have hU:=a_b w (.cells #[.slice (some ⟨b,0,none⟩) NN NN] 206);have HF:Hid (Sms w1 b NN (O*R*S*wd) (fun i=>b_V (inT L R S wd st x y i) R S wd (O*R*S*wd))/\Stay b w w1/\Below b w w1):=⟨aj,(Stay.of hU).trans ac,(hU.mono (Nat.le_of_lt an.out)).trans ak⟩
 clear aj ac ak hU;go_wp2
 go_end0
 exact ⟨rfl,HF.out⟩
theorem i_C (R L O wd st S:Nat) (hS:a_M L wd st=S) (h1:wd<=L) (h2:L<=4096) (h3:1<=st) (h4:st<=64) (h5:O*R*wd<=4096) (h6:O*S<=4096) (h7:R*L<=4096) (h8:O<=4096) (h9:R<=4096) (b gs U gk:Nat) (pa:Option Addr) (na ca:Nat) (pk:Option Addr) (V ck:Nat) (x y:List Int) (hx:RI x) (hy:RI y) (af:x.length=O*S) (ah:y.length=R*L) (w:World)
  (hs:SlC w gs R L O wd st) (ai:w.cell? ⟨U,1,none⟩=some (.slice pa na ca)) (ad:w.cell? ⟨gk,1,none⟩=some (.slice pk V ck)) (nx:Nums .i64 w (.slice pa na ca) x) (ny:Nums .i64 w (.slice pk V ck) y) (aa:U≠b/\gk≠b) (fx:Off b (.slice pa na ca)) (fy:Off b (.slice pk V ck)) (hb:b < w.heap.size) (h0:Sms w b (O*R*wd) 0 (fun _=>0)):
  Calls Tryz.prog 145 #[.slice (some ⟨b,0,none⟩) (O*R*wd) (O*R*wd),.pointer (some ⟨gs,0,none⟩),.pointer (some ⟨U,0,none⟩),.pointer (some ⟨gk,0,none⟩)] w fun e H=>e = .returned (.tuple #[])/\Sms H b (O*R*wd) (O*R*S*wd) (fun i=>b_V (m_e L R S wd st x y i) R S wd (O*R*S*wd))/\Stay b w H/\Below b w H:=by
 have ae:O*R*S*wd<=1073741824:=by
  have q1:S<=4097:=by rw [<- hS];unfold a_M;have:=Nat.div_le_self (L - wd) st;omega
  have q2:O*R*S*wd=O*R*wd*S:=by rw [Nat.mul_assoc,Nat.mul_comm S wd,<- Nat.mul_assoc]
  rw [q2];exact Nat.le_trans (Nat.mul_le_mul h5 q1) (by decide)
 have ab:∀ n,n < S->n*st+wd<=L:=fun n hn=>by
  unfold a_M at hS;have:n<=(L - wd) / st:=by omega
  have:=(Nat.le_div_iff_mul_le (by omega)).1 this;omega
 have av:∀ (fn:Fn) (first cap:Array Value) (w:World),(Instr.makeFunc fn first cap).run Tryz.prog w = .ok (.func fn first cap) w:=fun _ _ _ _=>rfl;obtain ⟨z0,z1,z2,z3,z4⟩:=hs;have zl:=a_a z0
 have HE:Hid (∀ J I,I=w.alloc (.cells #[.slice (some ⟨b,0,none⟩) (O*R*wd) (O*R*wd)] 206)->J=w.heap.size->Calls Tryz.prog 142 #[.agg #[.int .i64 (R:Int),.int .i64 (L:Int),.int .i64 (O:Int),.int .i64 (wd:Int),.int .i64 (st:Int)],.func (.func 146) #[] #[.pointer (some ⟨J,0,none⟩),.pointer (some ⟨U,0,none⟩),.pointer (some ⟨gk,0,none⟩)]] I fun e H=>e = .returned (.tuple #[])/\(Sms H b (O*R*wd) (O*R*S*wd) (fun i=>b_V (m_e L R S wd st x y i) R S wd (O*R*S*wd))/\Mt H b J U gk (O*R*wd) pa na ca pk V ck x y)/\Stay b I H/\Below b I H):=fun J I eW ao=>by
  have D:Below w.heap.size w I:=by rw [eW];exact a_b w _
  have am:I.cell? ⟨J,0,none⟩=some (.slice (some ⟨b,0,none⟩) (O*R*wd) (O*R*wd)):=by rw [eW,ao];simp [go_sem]
  refine f_B _ (fun args W=>by simp [go_sem]) _ _ _ b R L O wd st S hS h1 h2 h3 h4 h5 h6 h7 h8 h9 (fun q W=>Sms W b (O*R*wd) q (fun i=>b_V (m_e L R S wd st x y i) R S wd q)/\Mt W b J U gk (O*R*wd) pa na ca pk V ck x y) (fun q W W' h D=>⟨h.1.up D,h.2.up D⟩) ?_ I (Nat.lt_of_lt_of_le hb D.size) ⟨h0.up D,am,a_d ai D,a_d ad D,nx.up D,ny.up D,⟨by omega,aa⟩,fx,fy⟩;intro o c n y' ho hc hn M W hI
  have ap:c*L+n*st+y' < R*L:=by
   have q1:=ab n hn;have q2:(c+1)*L<=R*L:=Nat.mul_le_mul_right L hc;rw [Nat.add_mul,Nat.one_mul] at q2;omega
  have ag:(o*R+c)*wd+y' < O*R*wd:=a_0 (a_0 ho hc) M;have ar:o*S+n < O*S:=a_0 ho hn
  have hq:((o*R+c)*S+n)*wd+y'<=1073741824:=by
   have:=a_0 (a_0 (a_0 ho hc) hn) M;omega
  refine (m_k b J U gk (O*R*wd) (((o*R+c)*S+n)*wd+y') _ _ _ _ pa na ca pk V ck x y hx hy hq (by omega) ag (by rw [af];exact ar) (by rw [ah];exact ap) (by omega) (by omega) W hI.2 (hI.1 _ ag)).mono ?_;rintro e H ⟨e1,au,E⟩;refine ⟨e1,⟨hI.1.add E au ?_,hI.2.stay E.stay⟩,E.stay,E.below⟩;intro i hi;show b_V _ R S wd _=_;rw [e_z _ hc hn M];unfold m_e;by_cases e:(o*R+c)*wd+y'=i
  ·rw [if_pos e,if_pos e]
  ·rw [if_neg e,if_neg e,Int.add_zero]
 have an:Hid (b < w.heap.size):=hb;clear h0 ai ad nx ny fx fy hx hy af ah ae ab hS h5 h6 h7 hb aa;haveI:Nonempty World:=⟨w⟩
 obtain ⟨NN,aq⟩:∃ n,O*R*wd=n:=⟨_,rfl⟩
 rw [aq] at HE ⊢;go_enter Tryz.func145,Tryz.ntmps145;go_wp2_with fail
 refine (HE.out _ _ rfl rfl).mono ?_;rintro e w1 ⟨rfl,⟨aj,_⟩,ac,ak⟩;have hU:=a_b w (.cells #[.slice (some ⟨b,0,none⟩) NN NN] 206);have HF:Hid (Sms w1 b NN (O*R*S*wd) (fun i=>b_V (m_e L R S wd st x y i) R S wd (O*R*S*wd))/\Stay b w w1/\Below b w w1):=⟨aj,(Stay.of hU).trans ac,(hU.mono (Nat.le_of_lt an.out)).trans ak⟩
 clear aj ac ak hU;go_wp2
 go_end0
 exact ⟨rfl,HF.out⟩
theorem s_U (W:World) (b:Nat) (J D I E H:Value) {y0 y1 y2 U M:Value} (h0:W.cell? ⟨b,0,none⟩=some y0) (R:W.cell? ⟨b,1,none⟩=some y1) (O:W.cell? ⟨b,2,none⟩=some y2) (V:W.cell? ⟨b,3,none⟩=some U) (L:W.cell? ⟨b,4,none⟩=some M):
  (((((W.setCell ⟨b,0,none⟩ J).setCell ⟨b,1,none⟩ D).setCell ⟨b,2,none⟩ I).setCell ⟨b,3,none⟩ E).setCell ⟨b,4,none⟩ H).cell? ⟨b,0,none⟩=some J/\(((((W.setCell ⟨b,0,none⟩ J).setCell ⟨b,1,none⟩ D).setCell ⟨b,2,none⟩ I).setCell ⟨b,3,none⟩ E).setCell ⟨b,4,none⟩ H).cell? ⟨b,1,none⟩=some D/\(((((W.setCell ⟨b,0,none⟩ J).setCell ⟨b,1,none⟩ D).setCell ⟨b,2,none⟩ I).setCell ⟨b,3,none⟩ E).setCell ⟨b,4,none⟩ H).cell? ⟨b,2,none⟩=some I/\(((((W.setCell ⟨b,0,none⟩ J).setCell ⟨b,1,none⟩ D).setCell ⟨b,2,none⟩ I).setCell ⟨b,3,none⟩ E).setCell ⟨b,4,none⟩ H).cell? ⟨b,3,none⟩=some E/\(((((W.setCell ⟨b,0,none⟩ J).setCell ⟨b,1,none⟩ D).setCell ⟨b,2,none⟩ I).setCell ⟨b,3,none⟩ E).setCell ⟨b,4,none⟩ H).cell? ⟨b,4,none⟩=some H:=by
 refine ⟨?_,?_,?_,?_,?_⟩
 ·rw [a_w (by omega),a_w (by omega),a_w (by omega),a_w (by omega)];exact b_p h0
 ·rw [a_w (by omega),a_w (by omega),a_w (by omega)];exact b_p (by rw [a_w (by omega)];exact R)
 ·rw [a_w (by omega),a_w (by omega)];exact b_p (by rw [a_w (by omega),a_w (by omega)];exact O)
 ·rw [a_w (by omega)];exact b_p (by rw [a_w (by omega),a_w (by omega),a_w (by omega)];exact V)
 ·exact b_p (by rw [a_w (by omega),a_w (by omega),a_w (by omega),a_w (by omega)];exact L)
theorem f_C {d:List Int} {F G:Nat->Int} {N:Nat} (H:a_e (ntl d)=N) (h:∀ i,i < N->rnd (F i)=G i):p_d d F=if goodN (ntl d) then (List.range N).map G else []:=by
 unfold p_d;by_cases D:goodN (ntl d)
 ·rw [if_pos D,if_pos D,H];refine List.map_congr_left fun i E=>h i ?_;simpa using E
 ·rw [if_neg D,if_neg D]
theorem g_Y {L wd st:Nat} (h:1<=wd) (D:wd<=L):a_M L wd st<=L:=by
 unfold a_M;have:=Nat.div_le_self (L - wd) st;omega
theorem k_G {L wd st n:Nat} (H:wd<=L) (E:1<=st) (D:n < a_M L wd st):n*st+wd<=L:=by
 unfold a_M at D;have:n<=(L - wd) / st:=by omega
 have:=(Nat.le_div_iff_mul_le (by omega)).1 this;omega
theorem g_k {x:List Int} {n:Nat} (h:x.length=n) (D:1<=n):x≠[]:=by
 intro e;rw [e] at h;simp at h;omega
theorem o_l (R L O wd st S:Nat) (hS:a_M L wd st=S) (h0:1<=wd) (h1:wd<=L) (h2:L<=4096) (h3:1<=st) (h4:st<=64) (hR:1<=R) (hO:1<=O) (h5:O*R*wd<=4096) (h7:R*L<=4096) (h8:O<=4096) (h9:R<=4096) (I M gk:Nat) (pa:Option Addr) (na ca:Nat) (pk:Option Addr) (nk ck:Nat) (x y:List Int) (hx:RI x) (hy:RI y) (H:x.length=R*L) (U:y.length=O*R*wd) (p:Option Addr) (n c:Nat) (w:World) (hT:Hid (Tz w)) (hd:Nums .i64 w (.slice p n c) [(O:Int),(S:Int)])
  (hs:SlC w I R L O wd st) (V:w.cell? ⟨M,1,none⟩=some (.slice pa na ca)) (E:w.cell? ⟨gk,1,none⟩=some (.slice pk nk ck)) (nx:Nums .i64 w (.slice pa na ca) x) (ny:Nums .i64 w (.slice pk nk ck) y):
  Calls Tryz.prog 140 #[.slice p n c,.func (.func 155) #[] #[.pointer (some ⟨I,0,none⟩),.pointer (some ⟨M,0,none⟩),.pointer (some ⟨gk,0,none⟩)]] w fun e w'=>∃ v',e = .returned (.tuple #[v',.int .i64 (f_1 [(O:Int),(S:Int)])])/\TRes w' w.heap.size v' (d_V [(O:Int),(S:Int)]) (if goodN (ntl [(O:Int),(S:Int)]) then h_V R L wd O S st x y else [])/\Below w.heap.size w w':=by
 have D:S<=4096:=by rw [<- hS];exact Nat.le_trans (g_Y h0 h1) h2
 by_cases hg:goodN (ntl [(O:Int),(S:Int)])
 ·have hG:=s_y.1 hg;have h5:O*R*wd<=4096:=h5;have h6:O*S<=4096:=hG.2.2;have h7:R*L<=4096:=h7
  have hM:O*R*S*wd<=1073741824:=by
   have q2:O*R*S*wd=O*R*wd*S:=by rw [Nat.mul_assoc,Nat.mul_comm S wd,<- Nat.mul_assoc]
   rw [q2];exact Nat.le_trans (Nat.mul_le_mul h5 D) (by decide)
  have:=b_B 155 (fun args W=>by simp [go_sem]) (.pointer (some ⟨I,0,none⟩)) (.pointer (some ⟨M,0,none⟩)) (.pointer (some ⟨gk,0,none⟩)) p n c [(O:Int),(S:Int)] (j_w h8 D) (fun i=>b_V (n_u L R S wd st x y i) R S wd (O*R*S*wd)) (O*R*S*wd) hM w hT hd (by
   intro _ W b J hb aa hz;rw [c_k] at hz ⊢;have la:=a_a V;have lk:=a_a E;exact i_A R L O wd st S hS h1 h2 h3 h4 h5 h6 h7 h8 h9 b I M gk pa na ca pk nk ck x y hx hy H U W (hs.up J) (a_d V J) (a_d E J) (nx.up J) (ny.up J) ⟨by omega,by omega⟩ (nx.off (g_k H (Nat.mul_le_mul hR (show 1<=L by omega))) hb) (ny.off (g_k U (Nat.mul_le_mul (Nat.mul_le_mul hO hR) h0)) hb) aa hz)
  rw [f_C (G:=l_7 R L wd S st x y) (c_k _ _) (fun i hi=>m_d x y hi)] at this;exact this
 ·have:=b_B 155 (fun args W=>by simp [go_sem]) (.pointer (some ⟨I,0,none⟩)) (.pointer (some ⟨M,0,none⟩)) (.pointer (some ⟨gk,0,none⟩)) p n c [(O:Int),(S:Int)] (j_w h8 D) (fun i=>0) 0 (by omega) w hT hd (fun h=>absurd h hg);rw [show p_d [(O:Int),(S:Int)] (fun i=>0) = [] from if_neg hg] at this;rw [if_neg hg];exact this
theorem q_g (R L O wd st S:Nat) (hS:a_M L wd st=S) (h0:1<=wd) (h1:wd<=L) (V:L<=4096) (h3:1<=st) (h4:st<=64) (hR:1<=R) (hO:1<=O) (h5:O*R*wd<=4096) (h6:O*S<=4096) (h8:O<=4096) (h9:R<=4096) (H J gk:Nat) (pa:Option Addr) (na ca:Nat) (pk:Option Addr) (nk ck:Nat) (x y:List Int) (hx:RI x) (hy:RI y) (E:x.length=O*S) (M:y.length=O*R*wd) (p:Option Addr) (n c:Nat) (w:World) (hT:Hid (Tz w)) (hd:Nums .i64 w (.slice p n c) [(R:Int),(L:Int)])
  (hs:SlC w H R L O wd st) (U:w.cell? ⟨J,1,none⟩=some (.slice pa na ca)) (D:w.cell? ⟨gk,1,none⟩=some (.slice pk nk ck)) (nx:Nums .i64 w (.slice pa na ca) x) (ny:Nums .i64 w (.slice pk nk ck) y):
  Calls Tryz.prog 140 #[.slice p n c,.func (.func 141) #[] #[.pointer (some ⟨H,0,none⟩),.pointer (some ⟨J,0,none⟩),.pointer (some ⟨gk,0,none⟩)]] w fun e w'=>∃ v',e = .returned (.tuple #[v',.int .i64 (f_1 [(R:Int),(L:Int)])])/\TRes w' w.heap.size v' (d_V [(R:Int),(L:Int)]) (if goodN (ntl [(R:Int),(L:Int)]) then h_W O R S wd st L x y else [])/\Below w.heap.size w w':=by
 have ab:S<=4096:=by rw [<- hS];exact Nat.le_trans (g_Y h0 h1) V
 by_cases hg:goodN (ntl [(R:Int),(L:Int)])
 ·have hG:=s_y.1 hg;have h5:O*R*wd<=4096:=h5;have h6:O*S<=4096:=h6;have h7:R*L<=4096:=hG.2.2
  have hM:O*R*S*wd<=1073741824:=by
   have q2:O*R*S*wd=O*R*wd*S:=by rw [Nat.mul_assoc,Nat.mul_comm S wd,<- Nat.mul_assoc]
   rw [q2];exact Nat.le_trans (Nat.mul_le_mul h5 ab) (by decide)
  have:=b_B 141 (fun args W=>by simp [go_sem]) (.pointer (some ⟨H,0,none⟩)) (.pointer (some ⟨J,0,none⟩)) (.pointer (some ⟨gk,0,none⟩)) p n c [(R:Int),(L:Int)] (j_w h9 V) (fun i=>b_V (inT L R S wd st x y i) R S wd (O*R*S*wd)) (O*R*S*wd) hM w hT hd (by
   intro _ W b I hb aa hz;rw [c_k] at hz ⊢;have la:=a_a U;have lk:=a_a D;exact i_B R L O wd st S hS h1 V h3 h4 h5 h6 h7 h8 h9 b H J gk pa na ca pk nk ck x y hx hy E M W (hs.up I) (a_d U I) (a_d D I) (nx.up I) (ny.up I) ⟨by omega,by omega⟩ (nx.off (g_k E (Nat.mul_le_mul hO (show 1<=S by rw [<- hS];exact Nat.le_add_left 1 _))) hb) (ny.off (g_k M (Nat.mul_le_mul (Nat.mul_le_mul hO hR) h0)) hb) aa hz)
  rw [f_C (G:=k_F O R S wd st L x y) (c_k _ _) (fun i hi=>o_k x y hi (fun n hn=>k_G h1 h3 (by rw [hS];exact hn)))] at this;exact this
 ·have:=b_B 141 (fun args W=>by simp [go_sem]) (.pointer (some ⟨H,0,none⟩)) (.pointer (some ⟨J,0,none⟩)) (.pointer (some ⟨gk,0,none⟩)) p n c [(R:Int),(L:Int)] (j_w h9 V) (fun i=>0) 0 (by omega) w hT hd (fun h=>absurd h hg);rw [show p_d [(R:Int),(L:Int)] (fun i=>0) = [] from if_neg hg] at this;rw [if_neg hg];exact this
theorem o_m (R L O wd st S:Nat) (hS:a_M L wd st=S) (h0:1<=wd) (h1:wd<=L) (V:L<=4096) (h3:1<=st) (h4:st<=64) (hR:1<=R) (hO:1<=O) (h6:O*S<=4096) (h7:R*L<=4096) (h8:O<=4096) (h9:R<=4096) (H J gk:Nat) (pa:Option Addr) (na ca:Nat) (pk:Option Addr) (nk ck:Nat) (x y:List Int) (hx:RI x) (hy:RI y) (E:x.length=O*S) (M:y.length=R*L) (p:Option Addr) (n c:Nat) (w:World) (hT:Hid (Tz w)) (hd:Nums .i64 w (.slice p n c) [(O:Int),(R:Int),(wd:Int)])
  (hs:SlC w H R L O wd st) (U:w.cell? ⟨J,1,none⟩=some (.slice pa na ca)) (D:w.cell? ⟨gk,1,none⟩=some (.slice pk nk ck)) (nx:Nums .i64 w (.slice pa na ca) x) (ny:Nums .i64 w (.slice pk nk ck) y):
  Calls Tryz.prog 140 #[.slice p n c,.func (.func 145) #[] #[.pointer (some ⟨H,0,none⟩),.pointer (some ⟨J,0,none⟩),.pointer (some ⟨gk,0,none⟩)]] w fun e w'=>∃ v',e = .returned (.tuple #[v',.int .i64 (f_1 [(O:Int),(R:Int),(wd:Int)])])/\TRes w' w.heap.size v' (d_V [(O:Int),(R:Int),(wd:Int)]) (if goodN (ntl [(O:Int),(R:Int),(wd:Int)]) then p_c O R S L wd st x y else [])/\Below w.heap.size w w':=by
 have ab:S<=4096:=by rw [<- hS];exact Nat.le_trans (g_Y h0 h1) V
 by_cases hg:goodN (ntl [(O:Int),(R:Int),(wd:Int)])
 ·have hG:=r_a.1 hg;have h5:O*R*wd<=4096:=hG.2.2.2;have h6:O*S<=4096:=h6;have h7:R*L<=4096:=h7
  have hM:O*R*S*wd<=1073741824:=by
   have q2:O*R*S*wd=O*R*wd*S:=by rw [Nat.mul_assoc,Nat.mul_comm S wd,<- Nat.mul_assoc]
   rw [q2];exact Nat.le_trans (Nat.mul_le_mul h5 ab) (by decide)
  have:=b_B 145 (fun args W=>by simp [go_sem]) (.pointer (some ⟨H,0,none⟩)) (.pointer (some ⟨J,0,none⟩)) (.pointer (some ⟨gk,0,none⟩)) p n c [(O:Int),(R:Int),(wd:Int)] (j_x h8 h9 (Nat.le_trans h1 V)) (fun i=>b_V (m_e L R S wd st x y i) R S wd (O*R*S*wd)) (O*R*S*wd) hM w hT hd (by
   intro _ W b I hb aa hz;rw [e_t] at hz ⊢;have la:=a_a U;have lk:=a_a D;exact i_C R L O wd st S hS h1 V h3 h4 h5 h6 h7 h8 h9 b H J gk pa na ca pk nk ck x y hx hy E M W (hs.up I) (a_d U I) (a_d D I) (nx.up I) (ny.up I) ⟨by omega,by omega⟩ (nx.off (g_k E (Nat.mul_le_mul hO (show 1<=S by rw [<- hS];exact Nat.le_add_left 1 _))) hb) (ny.off (g_k M (Nat.mul_le_mul hR (show 1<=L by omega))) hb) aa hz)
  rw [f_C (G:=r_E R S L wd st x y) (e_t _ _ _) (fun i hi=>m_f x y hi)] at this;exact this
 ·have:=b_B 145 (fun args W=>by simp [go_sem]) (.pointer (some ⟨H,0,none⟩)) (.pointer (some ⟨J,0,none⟩)) (.pointer (some ⟨gk,0,none⟩)) p n c [(O:Int),(R:Int),(wd:Int)] (j_x h8 h9 (Nat.le_trans h1 V)) (fun i=>0) 0 (by omega) w hT hd (fun h=>absurd h hg);rw [show p_d [(O:Int),(R:Int),(wd:Int)] (fun i=>0) = [] from if_neg hg] at this;rw [if_neg hg];exact this
/-- Row: what the document says. -/
abbrev rwA (d x d' y:List Int) (st:Int):Prop:=isP d x/\isP d' y/\1<=st/\st<=64
abbrev rwS (d d':List Int):Prop:=d.length=2/\d'.length=3/\d.getD 0 0=d'.getD 1 0/\d'.getD 2 0<=d.getD 1 0
def rwO (d d':List Int) (st:Int):List Int:=[d'.getD 0 0,((a_M (d.getD 1 0).toNat (d'.getD 2 0).toNat st.toNat:Nat):Int)]
def rwE (d x d' y:List Int) (st:Int):Int:=if rwA d x d' y st then if rwS d d' then f_1 (rwO d d' st) else 4 else 1
def rwD (d x d' y:List Int) (st:Int):List Int:=if rwA d x d' y st/\rwS d d' then d_V (rwO d d' st) else []
def rwV (d x d' y:List Int) (st:Int):List Int:=if rwA d x d' y st/\rwS d d' then if goodN (ntl (rwO d d' st)) then h_V (d.getD 0 0).toNat (d.getD 1 0).toNat (d'.getD 2 0).toNat (d'.getD 0 0).toNat (a_M (d.getD 1 0).toNat (d'.getD 2 0).toNat st.toNat) st.toNat x y else [] else []
theorem m_l {d x d' y:List Int} {st:Int} (h:¬ rwA d x d' y st):rwE d x d' y st=1/\rwD d x d' y st = []/\rwV d x d' y st = []:=⟨if_neg h,if_neg fun c=>h c.1,if_neg fun c=>h c.1⟩
theorem e_U {d x d' y:List Int} {st:Int} (D:rwA d x d' y st) (h:¬ rwS d d'):rwE d x d' y st=4/\rwD d x d' y st = []/\rwV d x d' y st = []:=⟨by unfold rwE;rw [if_pos D,if_neg h],if_neg fun c=>h c.2,if_neg fun c=>h c.2⟩
theorem q_h {x y:List Int} {R L O wd st S:Nat} (D:rwA [(R:Int),(L:Int)] x [(O:Int),(R:Int),(wd:Int)] y st) (h:wd<=L) (H:a_M L wd st=S):rwE [(R:Int),(L:Int)] x [(O:Int),(R:Int),(wd:Int)] y st=f_1 [(O:Int),(S:Int)]/\rwD [(R:Int),(L:Int)] x [(O:Int),(R:Int),(wd:Int)] y st=d_V [(O:Int),(S:Int)]/\rwV [(R:Int),(L:Int)] x [(O:Int),(R:Int),(wd:Int)] y st=if goodN (ntl [(O:Int),(S:Int)]) then h_V R L wd O S st x y else []:=by
 have E:rwS [(R:Int),(L:Int)] [(O:Int),(R:Int),(wd:Int)]:=⟨rfl,rfl,rfl,by simpa using h⟩
 subst H;refine ⟨?_,?_,?_⟩
 ·unfold rwE;rw [if_pos D,if_pos E];rfl
 ·unfold rwD;rw [if_pos ⟨D,E⟩];rfl
 ·unfold rwV;rw [if_pos ⟨D,E⟩];rfl
/-- BackIn: what the document says. -/
abbrev biA (d x d' y:List Int) (st lg:Int):Prop:=isP d x/\isP d' y/\(1<=st/\st<=64)/\1<=lg/\lg<=4096
abbrev biS (d d':List Int) (st lg:Int):Prop:=d.length=2/\d'.length=3/\d.getD 0 0=d'.getD 0 0/\d'.getD 2 0<=lg/\d.getD 1 0=((a_M lg.toNat (d'.getD 2 0).toNat st.toNat:Nat):Int)
def biO (d':List Int) (lg:Int):List Int:=[d'.getD 1 0,lg]
def biE (d x d' y:List Int) (st lg:Int):Int:=if biA d x d' y st lg then if biS d d' st lg then f_1 (biO d' lg) else 4 else 1
def biD (d x d' y:List Int) (st lg:Int):List Int:=if biA d x d' y st lg/\biS d d' st lg then d_V (biO d' lg) else []
def biV (d x d' y:List Int) (st lg:Int):List Int:=if biA d x d' y st lg/\biS d d' st lg then if goodN (ntl (biO d' lg)) then h_W (d.getD 0 0).toNat (d'.getD 1 0).toNat (d.getD 1 0).toNat (d'.getD 2 0).toNat st.toNat lg.toNat x y else [] else []
theorem j_N {d x d' y:List Int} {st lg:Int} (h:¬ biA d x d' y st lg):biE d x d' y st lg=1/\biD d x d' y st lg = []/\biV d x d' y st lg = []:=⟨if_neg h,if_neg fun c=>h c.1,if_neg fun c=>h c.1⟩
theorem e_e {d x d' y:List Int} {st lg:Int} (D:biA d x d' y st lg) (h:¬ biS d d' st lg):biE d x d' y st lg=4/\biD d x d' y st lg = []/\biV d x d' y st lg = []:=⟨by unfold biE;rw [if_pos D,if_neg h],if_neg fun c=>h c.2,if_neg fun c=>h c.2⟩
theorem i_D {x y:List Int} {R L O wd st S:Nat} (D:biA [(O:Int),(S:Int)] x [(O:Int),(R:Int),(wd:Int)] y st L) (h:wd<=L) (H:a_M L wd st=S):biE [(O:Int),(S:Int)] x [(O:Int),(R:Int),(wd:Int)] y st L=f_1 [(R:Int),(L:Int)]/\biD [(O:Int),(S:Int)] x [(O:Int),(R:Int),(wd:Int)] y st L=d_V [(R:Int),(L:Int)]/\biV [(O:Int),(S:Int)] x [(O:Int),(R:Int),(wd:Int)] y st L=if goodN (ntl [(R:Int),(L:Int)]) then h_W O R S wd st L x y else []:=by
 have E:biS [(O:Int),(S:Int)] [(O:Int),(R:Int),(wd:Int)] st L:=⟨rfl,rfl,rfl,by simpa using h,by rw [<- H];rfl⟩
 refine ⟨?_,?_,?_⟩
 ·unfold biE;rw [if_pos D,if_pos E];rfl
 ·unfold biD;rw [if_pos ⟨D,E⟩];rfl
 ·unfold biV;rw [if_pos ⟨D,E⟩];rfl
/-- BackKernel: what the document says. -/
abbrev bkS (d d':List Int) (st lg:Int):Prop:=d.length=2/\d'.length=2/\lg<=d'.getD 1 0/\d.getD 1 0=((a_M (d'.getD 1 0).toNat lg.toNat st.toNat:Nat):Int)
def bkO (d d':List Int) (lg:Int):List Int:=[d.getD 0 0,d'.getD 0 0,lg]
def bkE (d x d' y:List Int) (st lg:Int):Int:=if biA d x d' y st lg then if bkS d d' st lg then f_1 (bkO d d' lg) else 4 else 1
def bkD (d x d' y:List Int) (st lg:Int):List Int:=if biA d x d' y st lg/\bkS d d' st lg then d_V (bkO d d' lg) else []
def bkV (d x d' y:List Int) (st lg:Int):List Int:=if biA d x d' y st lg/\bkS d d' st lg then if goodN (ntl (bkO d d' lg)) then p_c (d.getD 0 0).toNat (d'.getD 0 0).toNat (d.getD 1 0).toNat (d'.getD 1 0).toNat lg.toNat st.toNat x y else [] else []
theorem j_O {d x d' y:List Int} {st lg:Int} (h:¬ biA d x d' y st lg):bkE d x d' y st lg=1/\bkD d x d' y st lg = []/\bkV d x d' y st lg = []:=⟨if_neg h,if_neg fun c=>h c.1,if_neg fun c=>h c.1⟩
theorem e_V {d x d' y:List Int} {st lg:Int} (D:biA d x d' y st lg) (h:¬ bkS d d' st lg):bkE d x d' y st lg=4/\bkD d x d' y st lg = []/\bkV d x d' y st lg = []:=⟨by unfold bkE;rw [if_pos D,if_neg h],if_neg fun c=>h c.2,if_neg fun c=>h c.2⟩
theorem i_E {x y:List Int} {R L O wd st S:Nat} (D:biA [(O:Int),(S:Int)] x [(R:Int),(L:Int)] y st wd) (h:wd<=L) (H:a_M L wd st=S):bkE [(O:Int),(S:Int)] x [(R:Int),(L:Int)] y st wd=f_1 [(O:Int),(R:Int),(wd:Int)]/\bkD [(O:Int),(S:Int)] x [(R:Int),(L:Int)] y st wd=d_V [(O:Int),(R:Int),(wd:Int)]/\bkV [(O:Int),(S:Int)] x [(R:Int),(L:Int)] y st wd=if goodN (ntl [(O:Int),(R:Int),(wd:Int)]) then p_c O R S L wd st x y else []:=by
 have E:bkS [(O:Int),(S:Int)] [(R:Int),(L:Int)] st wd:=⟨rfl,rfl,by simpa using h,by rw [<- H];rfl⟩
 refine ⟨?_,?_,?_⟩
 ·unfold bkE;rw [if_pos D,if_pos E];rfl
 ·unfold bkD;rw [if_pos ⟨D,E⟩];rfl
 ·unfold bkV;rw [if_pos ⟨D,E⟩];rfl
end Go.Proofs.YtjlofobnmjompaaGreatDoor.Wd
