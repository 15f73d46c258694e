/- What grad's calls and rows are told as,  -/
import Derived.Test.YtjlofobnmjompaaGreatDoorP40
set_option linter.unusedVariables false
set_option linter.unusedSimpArgs false
set_option maxHeartbeats 16000000
set_option maxRecDepth 16000
namespace Go.Proofs.YtjlofobnmjompaaGreatDoor.Wd
open Go.RowKit Fx
def LineV (v:Value) (W:World):Prop:=∃ q r,v = .agg #[.slice (some ⟨q,0,none⟩) 1 1,.slice (some ⟨r,0,none⟩) 1 1]/\Nums .i64 W (.slice (some ⟨q,0,none⟩) 1 1) [1]/\LyR 0 W (some ⟨r,0,none⟩) 1 liL
theorem LineV.up {v:Value} {W W':World} (h:LineV v W) (D:Below W.heap.size W W'):LineV v W':=by
 obtain ⟨q,r,e,a,b⟩:=h;exact ⟨q,r,e,a.up D,b.up D⟩
def MadeW (n:Nat) (v:Value) (W:World):Prop:=∃ g,v = .slice (some ⟨g,0,none⟩) n n/\WdR W (some ⟨g,0,none⟩) n (List.replicate n 0)
theorem MadeW.up {n:Nat} {v:Value} {W W':World} (h:MadeW n v W) (D:Below W.heap.size W W'):MadeW n v W':=by
 obtain ⟨g,e,a⟩:=h;exact ⟨g,e,a.up D⟩
theorem n_n (p:Option Addr) (n cap a:Nat) (h:a<=n) (W:World):Sem.run Tryz.prog (Instr.slice 38 (.slice p n cap) (some (.int .i64 (a:Int))) none none) W = .ok (sliced p a n cap 3) W:=by
 have D:∀ W,Sem.run Tryz.prog (sizeOf (Tryz.prog.elem 38)) W = .ok 3 W:=fun W=>by kernel_rfl
 have:=run_slice_l (P:=Tryz.prog) W 38 p n cap (by kernel_rfl) .i64 (a:Int) (by omega) (by omega);rw [this,D];simp [Result.andThen]
theorem n_o (p:Option Addr) (n cap a:Nat) (h:a<=cap) (W:World):Sem.run Tryz.prog (Instr.slice 38 (.slice p n cap) none (some (.int .i64 (a:Int))) none) W = .ok (sliced p 0 a cap 3) W:=by
 have D:∀ W,Sem.run Tryz.prog (sizeOf (Tryz.prog.elem 38)) W = .ok 3 W:=fun W=>by kernel_rfl
 have:=run_slice_h (P:=Tryz.prog) W 38 p n cap (by kernel_rfl) .i64 (a:Int) (by omega) (by omega);rw [this,D];simp [Result.andThen]
theorem n_p {W:World} {p:Option Addr} {n cap a b:Nat} {l:List Exm} (h:ExR W p n l) (O:a<=b) (hb:b<=n) (M:n<=cap):∃ E D H,sliced p a b cap 3 = .slice E D H/\D=b - a/\ExR W E D ((l.drop a).take (b - a)):=by
 refine ⟨_,_,_,rfl,rfl,?_,fun i J=>?_⟩
 ·rw [List.length_take,List.length_drop,h.1];omega
 obtain ⟨q,o,e,L⟩:=h.2 (a+i) (by omega);subst e;refine ⟨q,o+a*3,?_,?_⟩
 ·rw [if_neg (by omega)];simp [a_u]
 ·have I:exA ((l.drop a).take (b - a)) i=exA l (a+i):=by
   unfold exA;rw [List.getD_eq_getElem?_getD,List.getD_eq_getElem?_getD,List.getElem?_take_of_lt J,List.getElem?_drop]
  rw [I,show o+a*3+i*3=o+(a+i)*3 by omega];exact L
def TupS (A1 A2 E:Int) (S:List Int) (v:Value) (W:World):Prop:=∃ u,v = .tuple #[u,.agg #[.int .i64 A1,.int .u64 A2],.int .i64 E]/\WRd W u S
theorem TupS.up {D H E:Int} {S:List Int} {v:Value} {W W':World} (h:TupS D H E S v W) (I:Below W.heap.size W W'):TupS D H E S v W':=by
 obtain ⟨u,e,r⟩:=h;exact ⟨u,e,r.up I⟩
def SlW (S:List Int) (v:Value) (W:World):Prop:=WRd W v S
theorem SlW.up {S:List Int} {v:Value} {W W':World} (h:SlW S v W) (D:Below W.heap.size W W'):SlW S v W':=WRd.up h D
def NewW (B:Nat) (v:Value) (W:World):Prop:=∃ g,v = .pointer (some ⟨g,0,none⟩)/\W.heap[g]?=some (.cells #[.int .i64 0,.int .u64 0] 45 (0,0))/\B<=g
theorem NewW.up {B:Nat} {v:Value} {W W':World} (h:NewW B v W) (D:Below W.heap.size W W'):NewW B v W':=by
 obtain ⟨g,e,a,b⟩:=h;exact ⟨g,e,(D.block _ (a_i a)).trans a,b⟩
theorem k_l {f:Exm->Int×List Int×Int} {n:Nat} {l:List Exm} (h:(f_4 f n l).1=0):(f_4 f n l).2.1.length=n:=by
 rw [h_d (k_h h)];exact h_b f n l
theorem k_m {f:Exm->Int×List Int×Int} {n:Nat} {l:List Exm}:InW (f_4 f n l).2.2:=by
 have:∀ i,InW (smK f n l i).2.2:=fun i=>by
  induction i with
  | zero=>show InW 0;unfold InW;omega
  | succ i ih=>
   rw [smK]
   split
   ·split
    ·exact c_9 _
    ·show InW 0;unfold InW;omega
   ·exact ih
 exact this _
/-- A Wide's box that was just made, and written. -/
theorem n_q {W:World} {g:Nat} (a b:Int) (h:W.heap[g]?=some (.cells #[.int .i64 0,.int .u64 0] 45 (0,0))):(W.cell? ⟨g,0,none⟩=some (.int .i64 0)/\W.cell? ⟨g,1,none⟩=some (.int .u64 0)/\W.frozen? ⟨g,0,none⟩=false/\W.frozen? ⟨g,1,none⟩=false)/\(((W.setCell ⟨g,0,none⟩ (.int .i64 a)).setCell ⟨g,1,none⟩ (.int .u64 b)).cell? ⟨g,0,none⟩=some (.int .i64 a)/\((W.setCell ⟨g,0,none⟩ (.int .i64 a)).setCell ⟨g,1,none⟩ (.int .u64 b)).cell? ⟨g,1,none⟩=some (.int .u64 b)):=by
 have D:=a_Z (i:=0) h rfl;have E:=a_Z (i:=1) h rfl;refine ⟨⟨D.1,E.1,D.2,E.2⟩,?_⟩;refine ⟨?_,b_p (v:=.int .u64 0) ?_⟩
 ·rw [a_w (by omega)];exact b_p D.1
 ·rw [a_w (by omega)];exact E.1
def TupF (A1 A2 E:Int) (S:List Int) (v:Value) (W:World):Prop:=∃ p n c,v = .tuple #[.slice p n c,.agg #[.int .i64 A1,.int .u64 A2],.int .i64 E]/\WdR W p n S/\∀ ad,p=some ad->ad.block < W.heap.size
def SlF (S:List Int) (v:Value) (W:World):Prop:=∃ p n c,v = .slice p n c/\WdR W p n S/\∀ ad,p=some ad->ad.block < W.heap.size
/-- The same, just made: behind the block B. -/
def t_y (A1 A2 E:Int) (S:List Int) (B:Nat) (v:Value) (W:World):Prop:=∃ p n c,v = .tuple #[.slice p n c,.agg #[.int .i64 A1,.int .u64 A2],.int .i64 E]/\WdR W p n S/\∀ ad,p=some ad->B<=ad.block/\ad.block < W.heap.size
theorem TupF.up {H I E:Int} {S:List Int} {v:Value} {W W':World} (h:TupF H I E S v W) (D:Below W.heap.size W W'):TupF H I E S v W':=by
 obtain ⟨p,n,c,e,r,l⟩:=h;exact ⟨p,n,c,e,r.up D,fun L J=>Nat.lt_of_lt_of_le (l L J) D.size⟩
theorem SlF.up {S:List Int} {v:Value} {W W':World} (h:SlF S v W) (D:Below W.heap.size W W'):SlF S v W':=by
 obtain ⟨p,n,c,e,r,l⟩:=h;exact ⟨p,n,c,e,r.up D,fun H E=>Nat.lt_of_lt_of_le (l H E) D.size⟩
theorem j_b {p:Option Addr} {n c:Nat} {x y:Value} {b:Nat} (h:l_b (.tuple #[.slice p n c,x,y])=some b):∃ D,p=some D/\D.block=b:=by
 cases p with
 | none=>cases h
 | some D=>exact ⟨D,rfl,Option.some.inj h⟩
theorem p_B {p:Option Addr} {n c:Nat} {b:Nat} (h:l_b (.slice p n c)=some b):∃ D,p=some D/\D.block=b:=by
 cases p with
 | none=>cases h
 | some D=>exact ⟨D,rfl,Option.some.inj h⟩
theorem k_n {p:Option Addr} {n c:Nat} {x y:Value} {b:Nat} (h:l_b (.slice p n c)=some b):l_b (.tuple #[.slice p n c,x,y])=some b:=by
 obtain ⟨D,rfl,e⟩:=p_B h;subst e;rfl
theorem TupF.lt {D J E:Int} {S:List Int} {v:Value} {W:World} {b:Nat} (h:TupF D J E S v W) (hb:l_b v=some b):b < W.heap.size:=by
 obtain ⟨p,n,c,e,_,l⟩:=h;subst e;obtain ⟨L,I,H⟩:=j_b hb;exact H ▸ l L I
theorem SlF.lt {S:List Int} {v:Value} {W:World} {b:Nat} (h:SlF S v W) (hb:l_b v=some b):b < W.heap.size:=by
 obtain ⟨p,n,c,e,_,l⟩:=h;subst e;obtain ⟨H,D,E⟩:=p_B hb;exact E ▸ l H D
theorem NewW.lt {B:Nat} {v:Value} {W:World} {b:Nat} (h:NewW B v W) (hb:l_b v=some b):b < W.heap.size:=by
 obtain ⟨g,e,a,_⟩:=h;subst e;obtain rfl:g=b:=Option.some.inj hb;exact a_i a
/-- The row stays what it was where the box beside it is written. -/
theorem WdR.stay {W W':World} {p:Option Addr} {n g:Nat} {l:List Int} (h:WdR W p n l) (E:Stay g W W') (I:∀ H,p=some H->H.block≠g):WdR W' p n l:=⟨h.1,h.2.1,fun i J=>by
 obtain ⟨q,o,e,a,b⟩:=h.2.2 i J;have D:q≠g:=I _ e;exact ⟨q,o,e,E.cell a D,E.cell b D⟩⟩
theorem n_r (hS:∀ d ls P,SumD d ls P) (hO:OfC [1] liL [0,0]) (hJ:q_2) (w:World) (hT:Hid (Tz w)) (hK:Hid (Kz w)) (z:Nat->Int) (n c:Nat) (p:Option Addr) (ls:List Ly) (n2 c2:Nat) (p2:Option Addr) (k:Int) (zp:Nat->Int) (np cp:Nat) (pp:Option Addr) (l:List Exm) (nl cl:Nat) (pl:Option Addr) (aW:Int) (h1:RowN .i64 w p n c z) (h2:LayN w p2 n2 c2 ls) (h3:RowN .i64 w pp np cp zp) (h4:ExsN w pl nl cl l):
  Calls Tryz.prog 4 #[.agg #[.slice p n c,.slice p2 n2 c2],.int .i64 k,.slice pp np cp,.slice pl nl cl,.int .i64 aW] w fun e I=>e = .returned (.bool true)/\Below w.heap.size w I:=by
 haveI:Nonempty World:=⟨w⟩
 obtain ⟨d,hd⟩:∃ d:List Int,Nums .i64 w (.slice p n c) d:=⟨l_c n z,h1.nums⟩
 obtain ⟨P,hP⟩:∃ P:List Int,RowI w pp np cp P:=⟨_,h3.rowI⟩
 have HN:Hid (Nums .i64 w (.slice p n c) d/\LyR 0 w p2 n2 ls/\RowI w pp np cp P/\ExR w pl nl l):=⟨hd,h2.2.2,hP,h4.2.2⟩
 have a0:nl<=cl:=h4.1;have CS:Hid (∀ d ls P,s_D d ls P):=fun d ls P=>(hS d ls P).c;have CD:Hid (∀ d ls P,SumD d ls P):=hS;have CJ:Hid q_2:=hJ;clear h1 h2 h3 h4 hd hP hS hJ;go_enter Tryz.func4,Tryz.ntmps4;go_wp2_with fail
 generalize aT:World.alloc _ _=W0;have aE:Hid (Below w.heap.size w W0):=by rw [<- aT];exact a_b w _
 obtain ⟨g0,g1⟩:W0.cell? ⟨w.heap.size,0,none⟩=some (.slice p n c)/\W0.cell? ⟨w.heap.size,1,none⟩=some (.slice p2 n2 c2):=by rw [<- aT];simp [go_sem]
 clear aT;refine (i_7 (CS.out _ _ _) hO W0 (Hid.up_tz hT aE.out) (Hid.up_kz hK aE.out)).mono ?_;rintro e w1 ⟨rfl,hB⟩;have aF:Hid (Below w.heap.size w w1):=a_c aE.out hB;replace g0:=a_h hB g0;replace g1:=a_h hB g1;have kg:=a_g g0;clear hB aE hO;go_wp2_with fail
 refine (o_U p p2 n c n2 c2 d ls w1 (HN.out.1.up aF.out) (HN.out.2.1.up aF.out)).mono ?_;rintro e w2 ⟨rfl,hB⟩;have ac:Hid (Below w.heap.size w w2):=a_c aF.out hB;replace g0:=a_h hB g0;replace g1:=a_h hB g1;replace kg:=a_g g0;clear hB aF;obtain ⟨M,eM⟩:∃ M,tmN n n2 d ls=M:=⟨_,rfl⟩
 by_cases tm:tmP n n2 d ls
 case neg=>
  rw [decide_eq_false tm,eM];go_wp2;go_ret;exact ⟨rfl,ac.out⟩
 have HM:Hid (nP d ls=M/\nE d ls=0/\M<=80/\n2<=6):=by
  have e:nP d ls=M:=by
   rw [<- eM];exact (if_neg (by have:=tm.1;have:=tm.2.1;omega)).symm
  exact ⟨e,tm.2.2.1,by rw [<- e];exact tm.2.2.2,tm.2.1⟩
 rw [decide_eq_true tm,eM];clear tm eM;by_cases a1:6 < nl
 ·have:(6:Int) < (nl:Int):=by omega
  go_wp2;go_ret;exact ⟨rfl,ac.out⟩
 have bI:(nl:Int)<=6:=by omega
 by_cases a2:100 < np
 ·have:(100:Int) < (np:Int):=by omega
  go_wp2;go_ret;exact ⟨rfl,ac.out⟩
 have bG:(np:Int)<=100:=by omega
 by_cases a3:aW < 0
 ·go_wp2;go_ret;exact ⟨rfl,ac.out⟩
 have bo:0<=aW:=by omega
 obtain ⟨V,bu⟩:=Int.eq_ofNat_of_zero_le bo;subst bu;by_cases a4:nl < V
 ·have:(nl:Int) < (V:Int):=by omega
  go_wp2;go_ret;exact ⟨rfl,ac.out⟩
 have bH:(V:Int)<=(nl:Int):=by omega
 go_wp2_with fail
 have HX:Hid (w2.cell? ⟨w.heap.size,0,none⟩=some (.slice p n c)/\w2.cell? ⟨w.heap.size,1,none⟩=some (.slice p2 n2 c2)):=⟨g0,g1⟩
 clear g0 g1 kg
 go_loopg [13] nl (fun gg i wr=>∃ (j:Nat),j<=nl/\gg=nl - j/\i = .int .i64 (j:Int)/\Hid (Below w2.heap.size w2 wr))
 case atStart=>exact ⟨0,by omega,by omega,rfl,Below.refl _ _⟩
 case round=>
  obtain ⟨j,hj,hg,rfl,HB⟩:=hrel;by_cases bq:j < nl
  ·have bK:(j:Int) < (nl:Int):=by omega
   obtain ⟨q,o,rfl,px,nx,cx,py,ny,cy,c0,c1,bw,_⟩:=(HN.out.2.2.2.up (a_c ac.out HB.out)).2 j bq;have kq:=a_a c0;go_wp2_with fail
   refine (n_c px py nx cx ny cy _ wr).mono ?_;rintro e w3 ⟨rfl,hB⟩;have a7:Hid (Below w2.heap.size w2 w3):=a_c HB.out hB;obtain ⟨r,er⟩:∃ r:Bool,decide (nx<=60/\ny<=60)=r:=⟨_,rfl⟩
   rw [er];clear er hB c0 c1 bw kq;cases r with
   | false=>
    go_wp2;go_ret;exact ⟨rfl,a_c ac.out a7.out⟩
   | true=>
    go_wp2;go_roundg (nl - (j+1))
    case measure=>omega
    case rel=>exact ⟨j+1,by omega,rfl,by first|rfl|simp,a7.out⟩
  ·obtain rfl:nl=j:=by omega
   obtain ⟨R1,bv⟩:∃ R1:World,R1=wr:=⟨_,rfl⟩
   subst bv;have aS:Hid (Below w.heap.size w R1):=a_c ac.out HB.out;have bn:0<=M:=by rw [<- HM.out.1];exact p_v HM.out.2.1
   obtain ⟨m,em⟩:=Int.eq_ofNat_of_zero_le bn;subst em;have bB:m<=80:=by have:=HM.out.2.2.1;omega
   go_wp2_with fail
   refine (k_0 pp np cp P m (by omega) (by omega) R1 (HN.out.2.2.1.1.up aS.out)).mono ?_;rintro e w4 ⟨v4,rfl,am,aJ⟩;obtain ⟨p4,n4,c4,rfl⟩:=am.form_;have g0:=a_d (a_d HX.out.1 HB.out) aJ;have g1:=a_d (a_d HX.out.2 HB.out) aJ;have kg:=a_g g0
   have bA:n4=m:=by
    obtain ⟨_,_,_,e,h⟩:=am.nums.lst;cases e;rw [<- h.out.1,o_S]
   subst bA;obtain ⟨Q,eQ⟩:∃ Q,n_d P n4=Q:=⟨_,rfl⟩
   rw [eQ] at am;have H4:Hid (RowI w4 p4 n4 c4 Q/\Below w.heap.size w w4):=⟨⟨am.nums,by rw [<- eQ];exact q_Z HN.out.2.2.1.2.1 _,am.cap⟩,a_c aS.out aJ⟩
   clear am aJ eQ aS HB HX;go_wp2_with fail
   obtain ⟨⟨E,S0,A⟩,eT⟩:∃ T,n_h d ls k Q l=T:=⟨_,rfl⟩
   obtain ⟨A1,bc⟩:∃ y,A / 18446744073709551616=y:=⟨_,rfl⟩
   obtain ⟨A2,bj⟩:∃ y,A % 18446744073709551616=y:=⟨_,rfl⟩
   have aO:wd A = .agg #[.int .i64 A1,.int .u64 A2]:=by unfold wd;rw [bc,bj]
   have ak:=k_X (f:=g_s d ls k Q) (n:=(nP d ls).toNat) (l:=l.take V) (m:=l.drop V);rw [List.take_append_drop] at ak;rw [show f_4 (g_s d ls k Q) (nP d ls).toNat l=(E,S0,A) from eT] at ak;obtain ⟨⟨E1,S1,B⟩,aN⟩:∃ T,n_h d ls k Q (l.take V)=T:=⟨_,rfl⟩
   obtain ⟨⟨E2,S2,C⟩,aP⟩:∃ T,n_h d ls k Q (l.drop V)=T:=⟨_,rfl⟩
   have aA:=k_l (f:=g_s d ls k Q) (n:=(nP d ls).toNat) (l:=l.take V);have aG:=k_l (f:=g_s d ls k Q) (n:=(nP d ls).toNat) (l:=l.drop V);have aH:=k_m (f:=g_s d ls k Q) (n:=(nP d ls).toNat) (l:=l.take V);have aK:=k_m (f:=g_s d ls k Q) (n:=(nP d ls).toNat) (l:=l.drop V);rw [show f_4 (g_s d ls k Q) (nP d ls).toNat (l.take V)=(E1,S1,B) from aN] at ak aA aH;rw [show f_4 (g_s d ls k Q) (nP d ls).toNat (l.drop V)=(E2,S2,C) from aP] at ak aG aK;dsimp only at ak aA aG aH aK;have be:Hid (E=0->E1=0/\E2=0/\e_o S1 S2=S0/\e_o S2 S1=S0/\wr (B+C)=A):=ak;have aB:Hid ((E1=0->S1.length=(nP d ls).toNat)/\(E2=0->S2.length=(nP d ls).toNat)/\InW B/\InW C):=⟨aA,aG,aH,aK⟩
   clear ak aA aG aH aK;have cc:=CS.out d ls Q HM.out.2.1 k l p p2 p4 pl n c n2 c2 n4 c4 nl cl (by have:=HM.out.2.2.2;omega) (by omega) (by omega) (by have:=HM.out.1;have:=HM.out.2.2.1;omega) w4 (Hid.up_tz hT H4.out.2) (Hid.up_kz hK H4.out.2) (HN.out.1.up H4.out.2) (HN.out.2.1.up H4.out.2) H4.out.1 (HN.out.2.2.2.up H4.out.2);rw [eT] at cc;dsimp only at cc;rw [aO] at cc;clear eT;refine cc.mono ?_;rintro e w5 ⟨v5,rfl,⟨p5,n5,c5,rfl,r5⟩,au⟩;have g0:=a_d g0 au;have g1:=a_d g1 au;have H5:Hid (RowI w5 p4 n4 c4 Q/\Below w.heap.size w w5/\WdR w5 p5 n5 S0/\w5.cell? ⟨w.heap.size,0,none⟩=some (.slice p n c)/\w5.cell? ⟨w.heap.size,1,none⟩=some (.slice p2 n2 c2)):=⟨H4.out.1.up au,a_c H4.out.2 au,r5,g0,g1⟩
   clear cc r5 au H4 g0 g1 kg;by_cases hE:E=0
   case neg=>
    have bJ:(E != 0)=true:=by simpa using hE
    go_wp2;go_ret;exact ⟨rfl,a_c H5.out.2.1 (a_b _ _)⟩
   subst hE;obtain ⟨e1,e2,eS,bk,eA⟩:=be.out rfl;subst e1;subst e2;have HE:Hid (e_o S1 S2=S0/\e_o S2 S1=S0/\wr (B+C)=A/\S1.length=(nP d ls).toNat/\S2.length=(nP d ls).toNat/\InW B/\InW C):=⟨eS,bk,eA,aB.out.1 rfl,aB.out.2.1 rfl,aB.out.2.2⟩
   clear eS bk eA be aB;obtain ⟨B1,ba⟩:∃ y,B / 18446744073709551616=y:=⟨_,rfl⟩
   obtain ⟨B2,a9⟩:∃ y,B % 18446744073709551616=y:=⟨_,rfl⟩
   have aR:wd B = .agg #[.int .i64 B1,.int .u64 B2]:=by unfold wd;rw [ba,a9]
   obtain ⟨C1,bd⟩:∃ y,C / 18446744073709551616=y:=⟨_,rfl⟩
   obtain ⟨C2,bm⟩:∃ y,C % 18446744073709551616=y:=⟨_,rfl⟩
   have aQ:wd C = .agg #[.int .i64 C1,.int .u64 C2]:=by unfold wd;rw [bd,bm]
   obtain ⟨pA,mA,cA,bl,bz,aq⟩:=n_p (a:=0) (b:=V) (cap:=cl) (HN.out.2.2.2) (by omega) (by omega) a0;obtain ⟨pB,mB,cB,a6,bx,av⟩:=n_p (a:=V) (b:=nl) (cap:=cl) (HN.out.2.2.2) (by omega) (by omega) a0;have bt:∀ W,Sem.run Tryz.prog (Instr.slice 38 (.slice pl nl cl) none (some (.int .i64 (V:Int))) none) W = .ok (.slice pA mA cA) W:=fun W=>by rw [n_o pl nl cl V (by omega) W,bl]
   have bs:∀ W,Sem.run Tryz.prog (Instr.slice 38 (.slice pl nl cl) (some (.int .i64 (V:Int))) none none) W = .ok (.slice pB mB cB) W:=fun W=>by rw [n_n pl nl cl V (by omega) W,a6]
   rw [List.drop_zero,Nat.sub_zero] at aq;rw [show (l.drop V).take (nl - V)=l.drop V from List.take_of_length_le (by rw [List.length_drop,HN.out.2.2.2.1];omega)] at av;have HC:Hid (ExR w pA mA (l.take V)/\ExR w pB mB (l.drop V)/\mA<=6/\mB<=6):=⟨aq,av,by omega,by omega⟩
   clear bl a6 aq av bz bx;go_wp2_with fail
   generalize an:World.alloc _ _=K5
   have ap:Hid (RowI K5 p4 n4 c4 Q/\Below w.heap.size w K5/\WdR K5 p5 n5 S0):=by
    rw [<- an];exact ⟨H5.out.1.up (a_b _ _),a_c H5.out.2.1 (a_b _ _),H5.out.2.2.1.up (a_b _ _)⟩
   have g0:K5.cell? ⟨w.heap.size,0,none⟩=some (.slice p n c):=by rw [<- an];exact a_d H5.out.2.2.2.1 (a_b _ _)
   have aC:K5.cell? ⟨w.heap.size,1,none⟩=some (.slice p2 n2 c2):=by rw [<- an];exact a_d H5.out.2.2.2.2 (a_b _ _)
   have q0:K5.cell? ⟨w5.heap.size,0,none⟩=some (.int .i64 A1):=by rw [<- an];simp [go_sem]
   have q1:K5.cell? ⟨w5.heap.size,1,none⟩=some (.int .u64 A2):=by rw [<- an];simp [go_sem]
   have kg:=a_g g0;have kq:=a_g q0;clear an H5
   have aM:Hid (∀ W,Below K5.heap.size K5 W->Calls Tryz.prog 15 #[.agg #[.slice p n c,.slice p2 n2 c2],.int .i64 k,.slice p4 n4 c4,.slice pA mA cA] W fun e I=>∃ p n c,e = .returned (.tuple #[.slice p n c,.agg #[.int .i64 B1,.int .u64 B2],.int .i64 0])/\WdR I p n S1/\(∀ L,p=some L->W.heap.size<=L.block/\L.block < I.heap.size)/\Below W.heap.size W I):=fun W hW=>by
    have aa:=a_c ap.out.2.1 hW;have cc:=CD.out d ls Q HM.out.2.1 k (l.take V) p p2 p4 pA n c n2 c2 n4 c4 mA cA (by have:=HM.out.2.2.2;omega) (by omega) (by have:=HC.out.2.2;omega) (by have:=HM.out.1;have:=HM.out.2.2.1;omega) W (Hid.up_tz hT aa) (Hid.up_kz hK aa) (HN.out.1.up aa) (HN.out.2.1.up aa) (ap.out.1.up hW) (HC.out.1.up aa);rw [aN] at cc;dsimp only at cc;rw [aR] at cc;refine cc.mono ?_;rintro e' w8 ⟨v8,rfl,⟨p8,n8,c8,rfl,r8⟩,ab,f8⟩;exact ⟨p8,n8,c8,rfl,r8,fun L ha=>f8 L n8 c8 (by rw [ha]),ab⟩
   refine r_m [⟨6,90,TupF B1 B2 0 S1⟩,⟨7,83,TupF B1 B2 0 S1⟩,⟨8,91,SlF S1⟩,⟨11,19,NewW K5.heap.size⟩] 12 148 (by kernel_rfl) rfl rfl [9,10] (by kernel_rfl) (by kernel_rfl) (fun i0 hi o0 ho c a w v h=>?_) (by rfl) [6,7,8] [11] l_b ?fw1 (by decide) (by decide) ?ph1 ?_
   ·simp only [List.mem_cons,List.not_mem_nil,or_false] at hi;rcases hi with rfl|rfl
    ·cases ho;exact h
    ·cases ho;exact h
   case fw1=>
    intro e he hk v W h b hb;simp only [List.mem_cons,List.not_mem_nil,or_false] at he;rcases he with rfl|rfl|rfl|rfl
    ·exact TupF.lt h hb
    ·exact TupF.lt h hb
    ·exact SlF.lt h hb
    ·exact NewW.lt h hb
   case ph1=>
    intro e he v W W' h hb;simp only [List.mem_cons,List.not_mem_nil,or_false] at he;rcases he with rfl|rfl|rfl|rfl
    ·exact TupF.up h hb
    ·exact TupF.up h hb
    ·exact SlF.up h hb
    ·exact NewW.up h hb
   apply Exists.intro;refine ⟨?yt1,?yl1,?wk1,?pk1,?st1,?sa1,?rest1⟩
   case wk1=>
    intro x;simp only [List.take_succ_cons,List.take_zero]
    iterate 6
     refine a_l rfl rfl ?_;apply Exists.intro;refine ⟨fun F hF hf K hK=>?_,?_⟩
     ·have hFc:=hF.cell;have hFf:=hF.frozen
      go_big_quiet_op
      first|exact hK|(apply Exists.intro;refine ⟨fun _=>?_,?_⟩;(· fail);exact hK)
     (try simp only [Act.put,sA_,sB_,sC_])
    refine a_o rfl rfl ?_ ?_
    ·intro F hF hf d;have hFc:=hF.cell;have hFf:=hF.frozen;simp [a_j,a_f,go_sem];refine (aM.out (F d) (hF.below d)).mono ?_;rintro e' w8 ⟨p8,n8,c8,rfl,r8,f8,ab⟩;exact ⟨_,rfl,⟨p8,n8,c8,rfl,r8,fun L ha=>(f8 L ha).2⟩,ab⟩
    (try simp only [Act.put,sA_,sB_,sC_])
    refine a_o rfl rfl ?_ ?_
    ·intro F hF hf d;have hFc:=hF.cell;have hFf:=hF.frozen;have h9:=hf _ List.mem_cons_self (by rfl) d;simp [a_j,a_f,go_sem];exact ⟨h9,Below.refl _ _⟩
    (try simp only [Act.put,sA_,sB_,sC_])
    refine a_o rfl rfl ?_ ?_
    ·intro F hF hf d;have hFc:=hF.cell;have hFf:=hF.frozen;have h9:=hf _ (List.mem_cons_of_mem _ List.mem_cons_self) (by rfl) d;obtain ⟨p9,n9,c9,J,r9,l9⟩:=h9;simp only [] at J;simp [a_j,a_f,go_sem,J];exact ⟨⟨p9,n9,c9,rfl,r9,l9⟩,Below.refl _ _⟩
    iterate 2
     (try simp only [Act.put,sA_,sB_,sC_])
     refine a_l rfl rfl ?_;apply Exists.intro;refine ⟨fun F hF hf K hK=>?_,?_⟩
     ·have hFc:=hF.cell;have hFf:=hF.frozen;have h9:=hf _ (List.mem_cons_of_mem _ List.mem_cons_self) (by rfl);obtain ⟨p9,n9,c9,J,_⟩:=h9 K5;simp only [] at J
      go_big_quiet_op
      first|exact hK|(apply Exists.intro;refine ⟨fun _=>?_,?_⟩;(· fail);exact hK)
    (try simp only [Act.put,sA_,sB_,sC_])
    refine a_o rfl rfl ?_ ?_
    ·intro F hF hf d;have hFc:=hF.cell;have hFf:=hF.frozen;simp [a_j,a_f,go_sem];exact ⟨⟨(F d).heap.size,rfl,by show ((F d).heap.push _)[(F d).heap.size]?=_;simp,(hF.below d).size⟩,a_b _ _⟩
    (try simp only [Act.put,sA_,sB_,sC_])
    refine b_a ?_;exact rfl
   case pk1=>
    intro x;simp only [b_k,List.foldl_cons,List.foldl_nil,Act.put,sA_,sB_,sC_]
   case yt1=>
    intro i0 hi o0 ho e he W x hx;simp only [List.mem_cons,List.not_mem_nil,or_false] at hi;rcases hi with rfl|rfl
    ·cases he
    ·cases he
   case yl1=>
    intro i0 hi o0 ho hn x hx;simp only [List.mem_cons,List.not_mem_nil,or_false] at hi;rcases hi with rfl|rfl
    ·cases ho;obtain ⟨W9,p9,n9,c9,J,_⟩:=hx _ (List.mem_cons_of_mem _ List.mem_cons_self) (by rfl);simp only [] at J;refine ⟨.agg #[.int .i64 B1,.int .u64 B2],fun t ht=>?_,.inl ⟨by rfl,fun w=>?_⟩⟩
     ·cases ht;rfl
     ·simp [execOp,Act.eval,J,go_sem]
    ·cases ho;obtain ⟨W9,p9,n9,c9,J,_⟩:=hx _ (List.mem_cons_of_mem _ List.mem_cons_self) (by rfl);simp only [] at J;refine ⟨.int .i64 0,fun t ht=>?_,.inl ⟨by rfl,fun w=>?_⟩⟩
     ·cases ht;rfl
     ·simp [execOp,Act.eval,J,go_sem]
   case st1=>
    intro e he hk o ho x F hF hf d;simp only [List.mem_cons,List.not_mem_nil,or_false] at he;rcases he with rfl|rfl|rfl|rfl
    ·cases ho;refine a_L (φ:=t_y B1 B2 0 S1 (F d).heap.size) ?_ ?_
     ·rintro v I ⟨p8,n8,c8,rfl,r8,f8⟩;refine ⟨⟨p8,n8,c8,rfl,r8,fun L ha=>(f8 L ha).2⟩,fun b hb=>.inl ?_⟩;obtain ⟨L,e1,e2⟩:=j_b hb;exact e2 ▸ (f8 L e1).1
     ·simp [a_j,a_f,go_sem];refine (aM.out (F d) (hF.below d)).mono ?_;rintro e' w8 ⟨p8,n8,c8,rfl,r8,f8,ab⟩;exact ⟨_,rfl,⟨p8,n8,c8,rfl,r8,f8⟩,ab⟩
    ·cases ho;have h9:=hf _ List.mem_cons_self (by rfl) d;refine a_L (φ:=fun v I=>v=x 6/\I=F d) ?_ ?_
     ·rintro v I ⟨rfl,rfl⟩;exact ⟨h9,fun b hb=>.inr ⟨_,List.mem_cons_self,by simp,by rfl,hb⟩⟩
     ·simp [a_j,a_f,go_sem]
      first|exact Below.refl _ _|exact ⟨⟨rfl,rfl⟩,Below.refl _ _⟩
    ·cases ho;have h9:=hf _ (List.mem_cons_of_mem _ List.mem_cons_self) (by rfl) d;obtain ⟨p9,n9,c9,J,r9,l9⟩:=h9;simp only [] at J;refine a_L (φ:=fun v I=>v = .slice p9 n9 c9/\I=F d) ?_ ?_
     ·rintro v I ⟨rfl,rfl⟩;exact ⟨⟨p9,n9,c9,rfl,r9,l9⟩,fun b hb=>.inr ⟨_,(List.mem_cons_of_mem _ List.mem_cons_self),by simp,by rfl,by show l_b (x 7)=_;rw [J];exact k_n hb⟩⟩
     ·simp [a_j,a_f,go_sem,J]
      first|exact Below.refl _ _|exact ⟨⟨rfl,rfl⟩,Below.refl _ _⟩
    ·exact absurd hk (by simp)
   case sa1=>
    intro e he hk o ho x F hF hf d;simp only [List.mem_cons,List.not_mem_nil,or_false] at he;rcases he with rfl|rfl|rfl|rfl
    ·exact absurd hk (by simp)
    ·exact absurd hk (by simp)
    ·exact absurd hk (by simp)
    ·cases ho;refine a_L (φ:=fun v I=>v = .pointer (some ⟨(F d).heap.size,0,none⟩)/\I=(F d).alloc (.cells #[.int .i64 0,.int .u64 0] 45)) ?_ ?_
     ·rintro v I ⟨rfl,rfl⟩;exact ⟨⟨(F d).heap.size,rfl,by show ((F d).heap.push _)[(F d).heap.size]?=_;simp,(hF.below d).size⟩,fun b hb=>Nat.le_of_eq (Option.some.inj hb)⟩
     ·simp [a_j,a_f,go_sem]
      first|exact a_b _ _|exact ⟨⟨rfl,rfl⟩,a_b _ _⟩
   intro z1 xs ar hf R;simp only [List.drop_succ_cons,List.drop_zero];obtain ⟨ax,aj,a5,ev,r_,_⟩:=hf _ (List.mem_cons_of_mem _ (List.mem_cons_of_mem _ List.mem_cons_self));obtain ⟨g1,eb,ay,ag⟩:=hf _ (List.mem_cons_of_mem _ (List.mem_cons_of_mem _ (List.mem_cons_of_mem _ List.mem_cons_self)));have R:=R _ _ (List.mem_cons_of_mem _ (List.mem_cons_of_mem _ List.mem_cons_self)) (List.mem_cons_of_mem _ (List.mem_cons_of_mem _ (List.mem_cons_of_mem _ List.mem_cons_self))) (by simp) (by simp);obtain ⟨bC,e6⟩:∃ q,xs 6=q:=⟨_,rfl⟩
   obtain ⟨bD,e7⟩:∃ q,xs 7=q:=⟨_,rfl⟩
   simp only [] at ev eb R;rw [ev,eb] at R;simp only [ev,eb,e6,e7];obtain ⟨⟨y0,y1,y2,y3⟩,u0,u1⟩:=n_q B1 B2 ay;have kz:=a_a y0;have hU:Below K5.heap.size K5 ((z1.setCell ⟨g1,0,none⟩ (.int .i64 B1)).setCell ⟨g1,1,none⟩ (.int .u64 B2)):=(ar.setCell (p:=⟨g1,0,none⟩) ag _).setCell (p:=⟨g1,1,none⟩) ag _;have aV:WdR ((z1.setCell ⟨g1,0,none⟩ (.int .i64 B1)).setCell ⟨g1,1,none⟩ (.int .u64 B2)) ax aj S1:=r_.stay (((Stay.refl _ _).set _ _).set _ _) fun L ha he=>R L.block (by rw [ha];rfl) (by rw [he];rfl);obtain ⟨U1,eU⟩:∃ U,((z1.setCell ⟨g1,0,none⟩ (.int .i64 B1)).setCell ⟨g1,1,none⟩ (.int .u64 B2))=U:=⟨_,rfl⟩
   rw [eU] at hU u0 u1 aV;have ae:Hid (RowI U1 p4 n4 c4 Q/\Below w.heap.size w U1/\WdR U1 p5 n5 S0/\WdR U1 ax aj S1):=⟨ap.out.1.up hU,a_c ap.out.2.1 hU,ap.out.2.2.up hU,aV⟩
   have bg:Hid (U1.cell? ⟨w.heap.size,0,none⟩=some (.slice p n c)/\U1.cell? ⟨w.heap.size,1,none⟩=some (.slice p2 n2 c2)/\U1.cell? ⟨w5.heap.size,0,none⟩=some (.int .i64 A1)/\U1.cell? ⟨w5.heap.size,1,none⟩=some (.int .u64 A2)/\U1.cell? ⟨g1,0,none⟩=some (.int .i64 B1)/\U1.cell? ⟨g1,1,none⟩=some (.int .u64 B2)):=⟨a_d g0 hU,a_d aC hU,a_d q0 hU,a_d q1 hU,u0,u1⟩
   clear hf R ar ev eb ay ag e6 e7 r_ aV u0 u1 hU g0 aC q0 q1 kg kq aM ap;go_wp2_with fail
   (try rw [eU])
   clear eU y0 y1 y2 y3 kz;obtain ⟨g0,aC,q0,q1,v0,v1⟩:=bg.out;have kg:=a_g g0;have kq:=a_g q0
   have aU:Hid (∀ W,Below U1.heap.size U1 W->Calls Tryz.prog 15 #[.agg #[.slice p n c,.slice p2 n2 c2],.int .i64 k,.slice p4 n4 c4,.slice pB mB cB] W fun e I=>∃ p n c,e = .returned (.tuple #[.slice p n c,.agg #[.int .i64 C1,.int .u64 C2],.int .i64 0])/\WdR I p n S2/\(∀ L,p=some L->W.heap.size<=L.block/\L.block < I.heap.size)/\Below W.heap.size W I):=fun W hW=>by
    have aa:=a_c ae.out.2.1 hW;have cc:=CD.out d ls Q HM.out.2.1 k (l.drop V) p p2 p4 pB n c n2 c2 n4 c4 mB cB (by have:=HM.out.2.2.2;omega) (by omega) (by have:=HC.out.2.2;omega) (by have:=HM.out.1;have:=HM.out.2.2.1;omega) W (Hid.up_tz hT aa) (Hid.up_kz hK aa) (HN.out.1.up aa) (HN.out.2.1.up aa) (ae.out.1.up hW) (HC.out.2.1.up aa);rw [aP] at cc;dsimp only at cc;rw [aQ] at cc;refine cc.mono ?_;rintro e' w8 ⟨v8,rfl,⟨p8,n8,c8,rfl,r8⟩,ab,f8⟩;exact ⟨p8,n8,c8,rfl,r8,fun L ha=>f8 L n8 c8 (by rw [ha]),ab⟩
   refine r_m [⟨6,101,TupF C1 C2 0 S2⟩,⟨7,94,TupF C1 C2 0 S2⟩,⟨8,102,SlF S2⟩,⟨11,22,NewW U1.heap.size⟩] 12 148 (by kernel_rfl) rfl rfl [9,10] (by kernel_rfl) (by kernel_rfl) (fun i0 hi o0 ho c a w v h=>?_) (by rfl) [6,7,8] [11] l_b ?fw2 (by decide) (by decide) ?ph2 ?_
   ·simp only [List.mem_cons,List.not_mem_nil,or_false] at hi;rcases hi with rfl|rfl
    ·cases ho;exact h
    ·cases ho;exact h
   case fw2=>
    intro e he hk v W h b hb;simp only [List.mem_cons,List.not_mem_nil,or_false] at he;rcases he with rfl|rfl|rfl|rfl
    ·exact TupF.lt h hb
    ·exact TupF.lt h hb
    ·exact SlF.lt h hb
    ·exact NewW.lt h hb
   case ph2=>
    intro e he v W W' h hb;simp only [List.mem_cons,List.not_mem_nil,or_false] at he;rcases he with rfl|rfl|rfl|rfl
    ·exact TupF.up h hb
    ·exact TupF.up h hb
    ·exact SlF.up h hb
    ·exact NewW.up h hb
   apply Exists.intro;refine ⟨?yt2,?yl2,?wk2,?pk2,?st2,?sa2,?rest2⟩
   case wk2=>
    intro x;simp only [List.take_succ_cons,List.take_zero]
    iterate 6
     refine a_l rfl rfl ?_;apply Exists.intro;refine ⟨fun F hF hf K hK=>?_,?_⟩
     ·have hFc:=hF.cell;have hFf:=hF.frozen
      go_big_quiet_op
      first|exact hK|(apply Exists.intro;refine ⟨fun _=>?_,?_⟩;(· fail);exact hK)
     (try simp only [Act.put,sA_,sB_,sC_])
    refine a_o rfl rfl ?_ ?_
    ·intro F hF hf d;have hFc:=hF.cell;have hFf:=hF.frozen;simp [a_j,a_f,go_sem];refine (aU.out (F d) (hF.below d)).mono ?_;rintro e' w8 ⟨p8,n8,c8,rfl,r8,f8,ab⟩;exact ⟨_,rfl,⟨p8,n8,c8,rfl,r8,fun L ha=>(f8 L ha).2⟩,ab⟩
    (try simp only [Act.put,sA_,sB_,sC_])
    refine a_o rfl rfl ?_ ?_
    ·intro F hF hf d;have hFc:=hF.cell;have hFf:=hF.frozen;have h9:=hf _ List.mem_cons_self (by rfl) d;simp [a_j,a_f,go_sem];exact ⟨h9,Below.refl _ _⟩
    (try simp only [Act.put,sA_,sB_,sC_])
    refine a_o rfl rfl ?_ ?_
    ·intro F hF hf d;have hFc:=hF.cell;have hFf:=hF.frozen;have h9:=hf _ (List.mem_cons_of_mem _ List.mem_cons_self) (by rfl) d;obtain ⟨p9,n9,c9,J,r9,l9⟩:=h9;simp only [] at J;simp [a_j,a_f,go_sem,J];exact ⟨⟨p9,n9,c9,rfl,r9,l9⟩,Below.refl _ _⟩
    iterate 2
     (try simp only [Act.put,sA_,sB_,sC_])
     refine a_l rfl rfl ?_;apply Exists.intro;refine ⟨fun F hF hf K hK=>?_,?_⟩
     ·have hFc:=hF.cell;have hFf:=hF.frozen;have h9:=hf _ (List.mem_cons_of_mem _ List.mem_cons_self) (by rfl);obtain ⟨p9,n9,c9,J,_⟩:=h9 U1;simp only [] at J
      go_big_quiet_op
      first|exact hK|(apply Exists.intro;refine ⟨fun _=>?_,?_⟩;(· fail);exact hK)
    (try simp only [Act.put,sA_,sB_,sC_])
    refine a_o rfl rfl ?_ ?_
    ·intro F hF hf d;have hFc:=hF.cell;have hFf:=hF.frozen;simp [a_j,a_f,go_sem];exact ⟨⟨(F d).heap.size,rfl,by show ((F d).heap.push _)[(F d).heap.size]?=_;simp,(hF.below d).size⟩,a_b _ _⟩
    (try simp only [Act.put,sA_,sB_,sC_])
    refine b_a ?_;exact rfl
   case pk2=>
    intro x;simp only [b_k,List.foldl_cons,List.foldl_nil,Act.put,sA_,sB_,sC_]
   case yt2=>
    intro i0 hi o0 ho e he W x hx;simp only [List.mem_cons,List.not_mem_nil,or_false] at hi;rcases hi with rfl|rfl
    ·cases he
    ·cases he
   case yl2=>
    intro i0 hi o0 ho hn x hx;simp only [List.mem_cons,List.not_mem_nil,or_false] at hi;rcases hi with rfl|rfl
    ·cases ho;obtain ⟨W9,p9,n9,c9,J,_⟩:=hx _ (List.mem_cons_of_mem _ List.mem_cons_self) (by rfl);simp only [] at J;refine ⟨.agg #[.int .i64 C1,.int .u64 C2],fun t ht=>?_,.inl ⟨by rfl,fun w=>?_⟩⟩
     ·cases ht;rfl
     ·simp [execOp,Act.eval,J,go_sem]
    ·cases ho;obtain ⟨W9,p9,n9,c9,J,_⟩:=hx _ (List.mem_cons_of_mem _ List.mem_cons_self) (by rfl);simp only [] at J;refine ⟨.int .i64 0,fun t ht=>?_,.inl ⟨by rfl,fun w=>?_⟩⟩
     ·cases ht;rfl
     ·simp [execOp,Act.eval,J,go_sem]
   case st2=>
    intro e he hk o ho x F hF hf d;simp only [List.mem_cons,List.not_mem_nil,or_false] at he;rcases he with rfl|rfl|rfl|rfl
    ·cases ho;refine a_L (φ:=t_y C1 C2 0 S2 (F d).heap.size) ?_ ?_
     ·rintro v I ⟨p8,n8,c8,rfl,r8,f8⟩;refine ⟨⟨p8,n8,c8,rfl,r8,fun L ha=>(f8 L ha).2⟩,fun b hb=>.inl ?_⟩;obtain ⟨L,e1,e2⟩:=j_b hb;exact e2 ▸ (f8 L e1).1
     ·simp [a_j,a_f,go_sem];refine (aU.out (F d) (hF.below d)).mono ?_;rintro e' w8 ⟨p8,n8,c8,rfl,r8,f8,ab⟩;exact ⟨_,rfl,⟨p8,n8,c8,rfl,r8,f8⟩,ab⟩
    ·cases ho;have h9:=hf _ List.mem_cons_self (by rfl) d;refine a_L (φ:=fun v I=>v=x 6/\I=F d) ?_ ?_
     ·rintro v I ⟨rfl,rfl⟩;exact ⟨h9,fun b hb=>.inr ⟨_,List.mem_cons_self,by simp,by rfl,hb⟩⟩
     ·simp [a_j,a_f,go_sem]
      first|exact Below.refl _ _|exact ⟨⟨rfl,rfl⟩,Below.refl _ _⟩
    ·cases ho;have h9:=hf _ (List.mem_cons_of_mem _ List.mem_cons_self) (by rfl) d;obtain ⟨p9,n9,c9,J,r9,l9⟩:=h9;simp only [] at J;refine a_L (φ:=fun v I=>v = .slice p9 n9 c9/\I=F d) ?_ ?_
     ·rintro v I ⟨rfl,rfl⟩;exact ⟨⟨p9,n9,c9,rfl,r9,l9⟩,fun b hb=>.inr ⟨_,(List.mem_cons_of_mem _ List.mem_cons_self),by simp,by rfl,by show l_b (x 7)=_;rw [J];exact k_n hb⟩⟩
     ·simp [a_j,a_f,go_sem,J]
      first|exact Below.refl _ _|exact ⟨⟨rfl,rfl⟩,Below.refl _ _⟩
    ·exact absurd hk (by simp)
   case sa2=>
    intro e he hk o ho x F hF hf d;simp only [List.mem_cons,List.not_mem_nil,or_false] at he;rcases he with rfl|rfl|rfl|rfl
    ·exact absurd hk (by simp)
    ·exact absurd hk (by simp)
    ·exact absurd hk (by simp)
    ·cases ho;refine a_L (φ:=fun v I=>v = .pointer (some ⟨(F d).heap.size,0,none⟩)/\I=(F d).alloc (.cells #[.int .i64 0,.int .u64 0] 45)) ?_ ?_
     ·rintro v I ⟨rfl,rfl⟩;exact ⟨⟨(F d).heap.size,rfl,by show ((F d).heap.push _)[(F d).heap.size]?=_;simp,(hF.below d).size⟩,fun b hb=>Nat.le_of_eq (Option.some.inj hb)⟩
     ·simp [a_j,a_f,go_sem]
      first|exact a_b _ _|exact ⟨⟨rfl,rfl⟩,a_b _ _⟩
   intro z2 xs ar hf R;simp only [List.drop_succ_cons,List.drop_zero];obtain ⟨aI,ao,bh,ev,r_,_⟩:=hf _ (List.mem_cons_of_mem _ (List.mem_cons_of_mem _ List.mem_cons_self));obtain ⟨g2,eb,ay,ag⟩:=hf _ (List.mem_cons_of_mem _ (List.mem_cons_of_mem _ (List.mem_cons_of_mem _ List.mem_cons_self)));have R:=R _ _ (List.mem_cons_of_mem _ (List.mem_cons_of_mem _ List.mem_cons_self)) (List.mem_cons_of_mem _ (List.mem_cons_of_mem _ (List.mem_cons_of_mem _ List.mem_cons_self))) (by simp) (by simp);obtain ⟨bF,e6⟩:∃ q,xs 6=q:=⟨_,rfl⟩
   obtain ⟨bE,e7⟩:∃ q,xs 7=q:=⟨_,rfl⟩
   simp only [] at ev eb R;rw [ev,eb] at R;simp only [ev,eb,e6,e7];obtain ⟨⟨y0,y1,y2,y3⟩,u0,u1⟩:=n_q C1 C2 ay;have kz:=a_a y0;have hU:Below U1.heap.size U1 ((z2.setCell ⟨g2,0,none⟩ (.int .i64 C1)).setCell ⟨g2,1,none⟩ (.int .u64 C2)):=(ar.setCell (p:=⟨g2,0,none⟩) ag _).setCell (p:=⟨g2,1,none⟩) ag _;have aD:WdR ((z2.setCell ⟨g2,0,none⟩ (.int .i64 C1)).setCell ⟨g2,1,none⟩ (.int .u64 C2)) aI ao S2:=r_.stay (((Stay.refl _ _).set _ _).set _ _) fun L ha he=>R L.block (by rw [ha];rfl) (by rw [he];rfl);obtain ⟨U2,eU⟩:∃ U,((z2.setCell ⟨g2,0,none⟩ (.int .i64 C1)).setCell ⟨g2,1,none⟩ (.int .u64 C2))=U:=⟨_,rfl⟩
   rw [eU] at hU u0 u1 aD;have bi:aj=(nP d ls).toNat:=by rw [<- ae.out.2.2.2.1];exact HE.out.2.2.2.1
   have aY:ao=(nP d ls).toNat:=by rw [<- aD.1];exact HE.out.2.2.2.2.1
   have aL:(nP d ls).toNat<=80:=by have:=HM.out.1;have:=HM.out.2.2.1;omega
   have O:Hid (aj=(nP d ls).toNat/\ao=(nP d ls).toNat/\(nP d ls).toNat<=80):=⟨bi,aY,aL⟩
   clear bi aY aL;have ah:Hid (Below w.heap.size w U2/\WdR U2 p5 n5 S0/\WdR U2 ax aj S1/\WdR U2 aI ao S2):=⟨a_c ae.out.2.1 hU,ae.out.2.2.1.up hU,ae.out.2.2.2.up hU,aD⟩
   have ai:Hid (U2.cell? ⟨w5.heap.size,0,none⟩=some (.int .i64 A1)/\U2.cell? ⟨w5.heap.size,1,none⟩=some (.int .u64 A2)/\U2.cell? ⟨g1,0,none⟩=some (.int .i64 B1)/\U2.cell? ⟨g1,1,none⟩=some (.int .u64 B2)/\U2.cell? ⟨g2,0,none⟩=some (.int .i64 C1)/\U2.cell? ⟨g2,1,none⟩=some (.int .u64 C2)):=⟨a_d q0 hU,a_d q1 hU,a_d v0 hU,a_d v1 hU,u0,u1⟩
   clear hf R ar ev eb ay ag e6 e7 r_ aD u0 u1 hU g0 aC q0 q1 kg kq v0 v1 aU ae bg;go_wp2_with fail
   (try rw [eU])
   clear eU y0 y1 y2 y3 kz;have cc:=CJ.out ax aI aj a5 ao bh S1 S2 (by have:=O.out;omega) U2 ah.out.2.2.1 ah.out.2.2.2;rw [if_pos (O.out.1.trans O.out.2.1.symm),if_pos (O.out.1.trans O.out.2.1.symm),HE.out.1] at cc;refine cc.mono ?_;rintro e w6 ⟨v6,rfl,⟨p6,n6,c6,rfl,r6⟩,bb⟩;have H6:Hid (Below U2.heap.size U2 w6/\WdR w6 p6 n6 S0):=⟨bb,r6⟩
   clear cc r6 bb;go_wp2_with fail
   have cc:=CJ.out aI ax ao bh aj a5 S2 S1 (by have:=O.out;omega) w6 (ah.out.2.2.2.up H6.out.1) (ah.out.2.2.1.up H6.out.1);rw [if_pos (O.out.2.1.trans O.out.1.symm),if_pos (O.out.2.1.trans O.out.1.symm),HE.out.2.1] at cc;refine cc.mono ?_;rintro e w7 ⟨v7,rfl,⟨p7,n7,c7,rfl,r7⟩,aw⟩;have H7:Hid (Below w.heap.size w w7/\WdR w7 p6 n6 S0/\WdR w7 p7 n7 S0/\WdR w7 p5 n5 S0):=⟨a_c ah.out.1 (a_c H6.out.1 aw),H6.out.2.up aw,r7,ah.out.2.1.up (a_c H6.out.1 aw)⟩
   have af:=a_c H6.out.1 aw;have q0:=a_d ai.out.1 af;have q1:=a_d ai.out.2.1 af;have v0:=a_d ai.out.2.2.1 af;have v1:=a_d ai.out.2.2.2.1 af;have u0:=a_d ai.out.2.2.2.2.1 af;have u1:=a_d ai.out.2.2.2.2.2 af;have kq:=a_g q0;have kv:=a_g v0;have ku:=a_g u0;have bp:S0.length=(nP d ls).toNat:=by rw [<- HE.out.1,h_c];exact HE.out.2.2.2.1
   have aX:Hid (∀ W,Below w7.heap.size w7 W->Calls Tryz.prog 16 #[.slice p6 n6 c6,.slice p5 n5 c5] W fun e I=>e = .returned (.bool true)/\Below W.heap.size W I):=fun W hW=>by
    have cw:=i_e p6 p5 n6 c6 n5 c5 S0 S0 (by have:=O.out.2.2;rw [<- H7.out.2.1.1];omega) W (H7.out.2.1.up hW) (H7.out.2.2.2.up hW);rw [decide_eq_true rfl] at cw;exact cw
   have a8:Hid (∀ W,Below w7.heap.size w7 W->Calls Tryz.prog 16 #[.slice p7 n7 c7,.slice p5 n5 c5] W fun e I=>e = .returned (.bool true)/\Below W.heap.size W I):=fun W hW=>by
    have cw:=i_e p7 p5 n7 c7 n5 c5 S0 S0 (by have:=O.out.2.2;rw [<- H7.out.2.2.1.1];omega) W (H7.out.2.2.1.up hW) (H7.out.2.2.2.up hW);rw [decide_eq_true rfl] at cw;exact cw
   have bf:Hid (∀ W,Below w7.heap.size w7 W->Calls Tryz.prog 17 #[.agg #[.int .i64 B1,.int .u64 B2],.agg #[.int .i64 C1,.int .u64 C2]] W fun e I=>e = .returned (.agg #[.int .i64 A1,.int .u64 A2])/\Below W.heap.size W I):=fun W hW=>by
    have:=Wd.add_any B C HE.out.2.2.2.2.2.1 HE.out.2.2.2.2.2.2 W;rw [HE.out.2.2.1,aO,aR,aQ] at this;exact this
   have hq:=fun W=>i_4 A1 A2 A1 A2 W;simp only [decide_true] at hq;clear cc r7 aw af ai ah H6 HE O bp HC CD CS CJ HM HN aO aR aQ aN aP bc bj ba a9 bd bm bt bs;go_wp2_with fail
   refine rel [] 31 148 (by kernel_rfl) rfl rfl (by kernel_rfl) (by rfl) ?_ ?_
   ·intro e he;simp at he
   apply Exists.intro;refine ⟨fun x=>?_,?_,?_⟩
   ·simp only [List.take_succ_cons,List.take_zero]
    iterate 17
     refine a_l rfl rfl ?_;apply Exists.intro;refine ⟨fun F hF hf K hK=>?_,?_⟩
     ·have hFc:=hF.cell;have hFf:=hF.frozen
      go_big_quiet_op
      first|exact hK|(apply Exists.intro;refine ⟨fun _=>?_,?_⟩;(· fail);exact hK)
     (try simp only [Act.put,sA_,sB_,sC_])
    refine a_l rfl rfl ?_;apply Exists.intro;refine ⟨fun F hF hf K hK=>?_,?_⟩
    ·have hFc:=hF.cell;have hFf:=hF.frozen
     go_big_quiet_op
     first|exact hK|(apply Exists.intro;refine ⟨fun _=>?_,?_⟩;(· exact hF.call (aX.out _ (hF.below _)));exact hK)
    iterate 4
     (try simp only [Act.put,sA_,sB_,sC_])
     refine a_l rfl rfl ?_;apply Exists.intro;refine ⟨fun F hF hf K hK=>?_,?_⟩
     ·have hFc:=hF.cell;have hFf:=hF.frozen
      go_big_quiet_op
      first|exact hK|(apply Exists.intro;refine ⟨fun _=>?_,?_⟩;(· fail);exact hK)
    (try simp only [Act.put,sA_,sB_,sC_])
    refine a_l rfl rfl ?_;apply Exists.intro;refine ⟨fun F hF hf K hK=>?_,?_⟩
    ·have hFc:=hF.cell;have hFf:=hF.frozen
     go_big_quiet_op
     first|exact hK|(apply Exists.intro;refine ⟨fun _=>?_,?_⟩;(· exact hF.call (a8.out _ (hF.below _)));exact hK)
    iterate 4
     (try simp only [Act.put,sA_,sB_,sC_])
     refine a_l rfl rfl ?_;apply Exists.intro;refine ⟨fun F hF hf K hK=>?_,?_⟩
     ·have hFc:=hF.cell;have hFf:=hF.frozen
      go_big_quiet_op
      first|exact hK|(apply Exists.intro;refine ⟨fun _=>?_,?_⟩;(· fail);exact hK)
    (try simp only [Act.put,sA_,sB_,sC_])
    refine a_l rfl rfl ?_;apply Exists.intro;refine ⟨fun F hF hf K hK=>?_,?_⟩
    ·have hFc:=hF.cell;have hFf:=hF.frozen
     go_big_quiet_op
     first|exact hK|(apply Exists.intro;refine ⟨fun _=>?_,?_⟩;(· exact hF.call (bf.out _ (hF.below _)));exact hK)
    iterate 3
     (try simp only [Act.put,sA_,sB_,sC_])
     refine a_l rfl rfl ?_;apply Exists.intro;refine ⟨fun F hF hf K hK=>?_,?_⟩
     ·have hFc:=hF.cell;have hFf:=hF.frozen
      go_big_quiet_op
      first|exact hK|(apply Exists.intro;refine ⟨fun _=>?_,?_⟩;(· fail);exact hK)
    (try simp only [Act.put,sA_,sB_,sC_])
    refine b_a ?_;exact rfl
   ·intro x;simp only [b_k,List.foldl_nil]
   ·intro w9 xs aZ hf;simp only [List.drop_succ_cons,List.drop_zero];have br:Hid (Below w.heap.size w w9):=a_c H7.out.1 aZ;clear hf aZ aX a8 bf q0 q1 v0 v1 u0 u1 kq kv ku;go_wp2;go_ret;exact ⟨rfl,br.out⟩
end Go.Proofs.YtjlofobnmjompaaGreatDoor.Wd
