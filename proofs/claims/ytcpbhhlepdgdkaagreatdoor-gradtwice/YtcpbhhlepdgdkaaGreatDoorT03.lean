/- What the functions of package wide hand  -/
import Derived.Test.YtcpbhhlepdgdkaaGreatDoorT02
set_option linter.unusedVariables false
set_option linter.unusedSimpArgs false
set_option maxHeartbeats 16000000
set_option maxRecDepth 16000
namespace Go.Proofs.YtcpbhhlepdgdkaaGreatDoor.Wd
open Go.RowKit Fx
theorem q_g (h:Int) (k:Nat) (H:-9223372036854775808<=h) (E:h<=9223372036854775807):InR (h / 2 ^ k):=by
 have D:(0:Int) < 2 ^ k:=Int.pow_pos (by decide);unfold InR;constructor
 ·rw [Int.le_ediv_iff_mul_le D];have:(-9223372036854775808:Int)*2 ^ k<=-9223372036854775808*1:=Int.mul_le_mul_of_nonpos_left (by decide) (by omega);omega
 ·have:h / 2 ^ k < 9223372036854775808:=Int.ediv_lt_of_lt_mul D (by
   have:(9223372036854775808:Int)*1<=9223372036854775808*2 ^ k:=Int.mul_le_mul_of_nonneg_left (by omega) (by decide);omega)
  omega
theorem h_S (a:Int) (n:Nat) (ha:InW a) (hn:n<=126) (D:Int) (en:D=(n:Int)) (w:World):
  Calls Tryz.prog 181 #[wd a,.int .i64 D] w fun e M=>e = .returned (wd (a / 2 ^ n))/\Below w.heap.size w M:=by
 obtain ⟨I,al,ea,a1,a2,a3,a4,Ha⟩:=words ha;have aa:0<=D/\D<=126:=by omega
 have En:Hid (D=(n:Int)):=en;rw [ea];clear ea en;by_cases h:64<=D
 ·have O:=q_g I (D - 64).toNat a1 a2
  have R:a / 2 ^ n=I / 2 ^ (D - 64).toNat:=by
   have L:=Ha.out;have h2:=En.out;rw [r_G a n (by omega)];have:a / 18446744073709551616=I:=by omega
   rw [this]
   congr 2
   omega
  have hs:∀ W:World,Calls Tryz.prog 19 #[.int .i64 (I / 2 ^ (D - 64).toNat)] W fun e M=>e = .returned (wd (a / 2 ^ n))/\Below W.heap.size W M:=by
   intro W;rw [R];exact of_any _ O W
  have V:=InR.w O;rw [<- R] at V;obtain ⟨h',l,e,L,h2,l1,l2,H⟩:=words V;rw [e] at hs ⊢;clear e R O V;go_enter Tryz.func181,Tryz.ntmps181;go_wp2_with fail
  refine (hs _).mono ?_;rintro e' w1 ⟨rfl,hb⟩;obtain ⟨E,J⟩:=f_z hb;have hB:Below w.heap.size w w1:=Below.trans (by go_grown) (hb.mono (by simp;try omega));have U:=hb.size;simp at U;go_wp2;obtain ⟨f0,f1⟩:=two w1 (w.heap.size+1) (.int .i64 h') (.int .u64 l) (by rw [E _ _ (by simp)];simp [go_sem];rfl) (by rw [E _ _ (by simp)];simp [go_sem];rfl);refine bodyPost_ret (v:=.agg #[.int .i64 h',.int .u64 l]) (by simp [results,Tryz.results181,go_sem,f0,f1]) rfl ⟨rfl,by go_grown⟩
 ·go_enter Tryz.func181,Tryz.ntmps181;go_wp2;go_region;go_wp2;refine bodyPost_ret (v:=.agg #[.int .i64 (I / 2 ^ D.toNat),.int .u64 (bits .or .u64 (IntKind.u64.wrap (IntKind.u64.wrap I*2 ^ (64 - D).toNat)) (al / 2 ^ D.toNat))]) (by simp [results,Tryz.results181,go_sem]) rfl ⟨?_,by go_grown⟩;have L:=Ha.out;have h2:=En.out;have e1:D.toNat=n:=by omega
  have e2:(64 - D).toNat=64 - n:=by omega
  rw [e1,e2];apply r_E
  ·rw [s_Z,show a / 18446744073709551616=I by omega]
  ·rw [IntKind.wrap_u64,IntKind.wrap_u64,L,<- s_0 I al n (by omega) (by omega)]
   congr 1
   rw [Int.mul_emod,Int.emod_emod,<- Int.mul_emod]
/-- The table of the lowest bits' places, as its variable holds it. -/
def Tz (w:World):Prop:=∀ j,j < 64->w.cell? ⟨3,j,none⟩=some (.int .u8 (Lib.deBruijn64tab.getD j 0))
theorem b_w {w:World} {b o:Nat} {v:Value} (h:w.cell? ⟨b,o,none⟩=some v):b < w.heap.size:=by
 by_cases c:b < w.heap.size
 ·exact c
 ·exfalso;unfold World.cell? at h;rw [show w.heap[b]?=none from by simp;omega] at h;simp at h
theorem keep {W D:World} {b o:Nat} {v:Value} (hb:Below W.heap.size W D) (h:W.cell? ⟨b,o,none⟩=some v):D.cell? ⟨b,o,none⟩=some v:=by
 rw [(f_z hb).1 _ _ (b_w h)];exact h
theorem a_U {W D:World} {b o:Nat} {v:Value} (hb:Below W.heap.size W D) (h:W.cell? ⟨b,o,none⟩=some v) (hf:W.frozen? ⟨b,o,none⟩=false):D.frozen? ⟨b,o,none⟩=false:=by
 rw [(f_z hb).2 _ _ (b_w h)];exact hf
theorem Tz.up {w D:World} (h:Tz w) (hb:Below w.heap.size w D):Tz D:=by
 intro j H;have E:=h j H;rw [(f_z hb).1 _ _ (b_w E)];exact E
theorem q_h (w:World):
  Calls Tryz.prog 185 #[.int .u64 0] w fun e D=>e = .returned (.int .i64 64)/\D=w:=by
 go_enter Tryz.func185,Tryz.ntmps185;go_wp2;go_ret;exact ⟨rfl,rfl⟩
theorem q_i (x k D:Nat) (w:World) (I:((x:Int)==0)=false)
  (E:IntKind.u64.wrap (bits BinOp.and IntKind.u64 (x:Int) (IntKind.u64.wrap (-(x:Int)))*285870213051353865) / 288230376151711744=(D:Int))
  (L:D < 64) (M:k < 64) (H:w.cell? ⟨3,D,none⟩=some (.int .u8 k)):
  Calls Tryz.prog 185 #[.int .u64 x] w fun e J=>e = .returned (.int .i64 k)/\J=w:=by
 go_enter Tryz.func185,Tryz.ntmps185;go_wp2_with (simp only [E])
 go_ret;exact ⟨rfl,rfl⟩
theorem p_k (x:Nat) (L:x < 18446744073709551616) (w:World) (O:Tz w):
  Calls Tryz.prog 185 #[.int .u64 x] w fun e R=>e = .returned (.int .i64 (Lib.ctz 64 x))/\R=w:=by
 by_cases E:x=0
 ·subst E;exact q_h w
 ·obtain ⟨H,M⟩:=Lib.lowest_bit 64 x E L;obtain ⟨J,I⟩:=Lib.deBruijn64_at _ M;have D:=O _ J;rw [I] at D;exact q_i x _ _ w (by simpa using E) (tz64_key x _ L E H) J M D
/-- How many of the lowest bits of both words are 0. -/
theorem r_I (h l:Int) (k:Nat) (M:k<=127) (L:-9223372036854775808<=h) (J:h<=9223372036854775807) (E:l=0) (x:Nat) (I:(x:Int)=h % 18446744073709551616):
  (64+(Lib.ctz 64 x:Int) < (k:Int))↔(h*18446744073709551616+l) % 2 ^ k≠0:=by
 subst E;by_cases c:k<=64
 ·have:(h*18446744073709551616+0) % 2 ^ k=0:=by
   have e:(18446744073709551616:Int)=2 ^ (64 - k)*2 ^ k:=by rw [<- Int.pow_add,show 64 - k+k=64 by omega];rfl
   rw [Int.add_zero,e,<- Int.mul_assoc];exact Int.mul_emod_left ..
  omega
 ·have e:(h*18446744073709551616+0) % 2 ^ k=18446744073709551616*(h % 2 ^ (k - 64)):=by
   rw [Int.add_zero,Int.mul_comm,show (2:Int) ^ k=18446744073709551616*2 ^ (k - 64) by
    rw [show (18446744073709551616:Int)=2 ^ 64 by rfl,<- Int.pow_add,show 64+(k - 64)=k by omega]]
   exact Int.mul_emod_mul_of_pos _ _ (by decide)
  rw [e]
  have H:h % 2 ^ (k - 64)=((x % 2 ^ (k - 64):Nat):Int):=by
   rw [Int.natCast_emod,I,Int.natCast_pow]
   exact (Int.emod_emod_of_dvd h (by
    refine ⟨2 ^ (64 - (k - 64)),?_⟩;show (18446744073709551616:Int)=2 ^ (k - 64)*2 ^ (64 - (k - 64));rw [<- Int.pow_add,show k - 64+(64 - (k - 64))=64 by omega];rfl)).symm
  rw [H];by_cases D:x=0
  ·subst D;have:Lib.ctz 64 0=64:=rfl;rw [this];simp;omega
  ·have:=p_j x (k - 64) (by omega) (by omega);omega
theorem r_J (h l:Int) (k:Nat) (x:Nat) (D:0 < x) (H:(x:Int)=l) (I:l<=18446744073709551615):
  ((Lib.ctz 64 x:Int) < (k:Int))↔(h*18446744073709551616+l) % 2 ^ k≠0:=by
 have J:=p_j x k D (by omega);by_cases c:k<=64
 ·have e:(h*18446744073709551616+l) % 2 ^ k=((x % 2 ^ k:Nat):Int):=by
   have e:(18446744073709551616:Int)=2 ^ (64 - k)*2 ^ k:=by rw [<- Int.pow_add,show 64 - k+k=64 by omega];rfl
   rw [e,<- Int.mul_assoc,Int.add_comm,Int.add_mul_emod_self_right,<- H,Int.natCast_emod,Int.natCast_pow];rfl
  rw [e];omega
 ·have L:Lib.ctz 64 x < 64:=(Lib.lowest_bit 64 x (by omega) (by omega)).2;constructor
  ·intro _ E
   have e:((h*18446744073709551616+l) % 2 ^ k) % 18446744073709551616=l:=by
    rw [Int.emod_emod_of_dvd _ (by
     refine ⟨2 ^ (k - 64),?_⟩;rw [show (18446744073709551616:Int)=2 ^ 64 by rfl,<- Int.pow_add,show 64+(k - 64)=k by omega])]
    omega
   rw [E] at e;omega
  ·intro _;omega
theorem l_Q (a:Int) (ha:InW a) (w:World) (M:Hid (Tz w)):
  Calls Tryz.prog 182 #[wd a] w fun e H=>∃ z:Int,e = .returned (.int .i64 z)/\0<=z/\z<=128/\Hid (∀ k:Nat,k<=127->(z < (k:Int)↔a % 2 ^ k≠0))/\Below w.heap.size w H:=by
 obtain ⟨I,al,O,V,a2,a3,a4,U⟩:=words ha;rw [O];clear O;by_cases h:al=0
 ·subst h;obtain ⟨x,D⟩:=Int.eq_ofNat_of_zero_le (Int.emod_nonneg I (show (18446744073709551616:Int)≠0 by decide));obtain ⟨z,E⟩:∃ z:Int,(Lib.ctz 64 x:Int)=z:=⟨_,rfl⟩
  have hz:0<=z/\z<=64:=by
   by_cases c:x=0
   ·subst c;have:Lib.ctz 64 0=64:=rfl;omega
   ·have:=(Lib.lowest_bit 64 x c (by omega)).2;omega
  have J:∀ W:World,Below w.heap.size w W->Calls Tryz.prog 185 #[.int .u64 (IntKind.u64.wrap I)] W fun e H=>e = .returned (.int .i64 z)/\H=W:=by
   intro W hb;have:=p_k x (by omega) W (M.out.up hb);rw [E] at this;rw [IntKind.wrap_u64,D];exact this
  have L:Hid (∀ k:Nat,k<=127->(64+z < (k:Int)↔a % 2 ^ k≠0)):=by
   intro k R;rw [U.out,<- E];exact r_I I 0 k R V a2 rfl x D.symm
  clear E D;go_enter Tryz.func182,Tryz.ntmps182;go_wp2_with (go_at_call 185;refine (J _ (by go_grown)).mono ?_;rintro e' w2 ⟨rfl,rfl⟩)
  go_ret;exact ⟨_,rfl,by omega,by omega,L,by go_grown⟩
 ·have h':(al==0)=false:=by simpa using h
  obtain ⟨x,D⟩:=Int.eq_ofNat_of_zero_le a3;obtain ⟨z,E⟩:∃ z:Int,(Lib.ctz 64 x:Int)=z:=⟨_,rfl⟩
  have hz:0<=z/\z<=64:=by
   have:=(Lib.lowest_bit 64 x (by omega) (by omega)).2;omega
  have J:∀ W:World,Below w.heap.size w W->Calls Tryz.prog 185 #[.int .u64 al] W fun e H=>e = .returned (.int .i64 z)/\H=W:=by
   intro W hb;have:=p_k x (by omega) W (M.out.up hb);rw [E] at this;rw [D];exact this
  have L:Hid (∀ k:Nat,k<=127->(z < (k:Int)↔a % 2 ^ k≠0)):=by
   intro k R;rw [U.out,<- E];exact r_J I al k x (by omega) D.symm a4
  clear E D;go_enter Tryz.func182,Tryz.ntmps182;go_wp2_with (go_at_call 185;refine (J _ (by go_grown)).mono ?_;rintro e' w2 ⟨rfl,rfl⟩)
  go_ret;exact ⟨_,rfl,by omega,by omega,L,by go_grown⟩
theorem h_T (p q:Int) (W:World):Sem.run Tryz.prog (Instr.field 38 (.agg #[.int .i64 p,.int .u64 q]) 0) W = .ok (.int .i64 p) W:=by
 kernel_rfl
theorem h_U (p q:Int) (W:World):Sem.run Tryz.prog (Instr.field 38 (.agg #[.int .i64 p,.int .u64 q]) 1) W = .ok (.int .u64 q) W:=by
 kernel_rfl
attribute [local go_sem] h_T h_U
theorem j_N:wd 1 = .agg #[.int .i64 0,.int .u64 1]:=(k_E (by decide) (by decide)).symm
theorem l_R (a:Int) (n:Nat) (E:InW a):InW (a / 2 ^ n):=by
 have D:(0:Int) < 2 ^ n:=Int.pow_pos (by decide);unfold InW at *;constructor
 ·rw [Int.le_ediv_iff_mul_le D];have:(-170141183460469231731687303715884105728:Int)*2 ^ n<=-170141183460469231731687303715884105728*1:=Int.mul_le_mul_of_nonpos_left (by decide) (by omega);omega
 ·exact Int.ediv_lt_of_lt_mul D (by
   have:(170141183460469231731687303715884105728:Int)*1<=170141183460469231731687303715884105728*2 ^ n:=Int.mul_le_mul_of_nonneg_left (by omega) (by decide);omega)
theorem q_j (a:Int) (k:Nat) (D:InW a):InW (a / 2 ^ (k+1)+1):=by
 have h:=l_R a k D;rw [Int.pow_succ,<- dd a (Int.pow_pos (by decide))];unfold InW at *;omega
theorem k_F (a D:Int) (I:InW a) (J:D < 1∨126 < D) (L:InR D) (w:World):
  Calls Tryz.prog 177 #[wd a,.int .i64 D] w fun e M=>e = .returned (wd a)/\Below w.heap.size w M:=by
 obtain ⟨H,al,E,O,R,U,a4,V⟩:=words I;rw [E];clear E;unfold InR at L;rcases J with h|h
 all_goals
  go_enter Tryz.func177,Tryz.ntmps177;go_wp2;exact bodyPost_ret (v:=.agg #[.int .i64 H,.int .u64 al]) (by simp [results,Tryz.results177,go_sem]) rfl ⟨rfl,by go_grown⟩
theorem l_S (a nn:Int) (k:Nat) (ha:InW a) (hn:nn=(k:Int)+1) (hk:k<=125) (w:World) (hT:Hid (Tz w)):
  Calls Tryz.prog 177 #[wd a,.int .i64 nn] w fun e w'=>e = .returned (wd (rqI a (2 ^ (k+1))))/\Below w.heap.size w w':=by
 have hq:=l_R a (k+1) ha;have hp:=l_R a k ha;have aw:=q_j a k ha;obtain ⟨ah,al,ea,a1,a2,a3,a4,Ha⟩:=words ha;obtain ⟨lh,U,el,l1,l2,l3,l4,Hl⟩:=words hq;obtain ⟨mh,ml,em,m1,m2,m3,m4,Hm⟩:=words hp;obtain ⟨uh,ul,eu,u1,u2,u3,u4,Hu⟩:=words aw
 have s1:∀ W:World,Calls Tryz.prog 181 #[.agg #[.int .i64 ah,.int .u64 al],.int .i64 nn] W fun e w'=>e = .returned (.agg #[.int .i64 lh,.int .u64 U])/\Below W.heap.size W w':=by
  intro W;have:=h_S a (k+1) ha (by omega) nn (by omega) W;rw [el,ea] at this;exact this
 have s2:∀ W:World,Calls Tryz.prog 181 #[.agg #[.int .i64 ah,.int .u64 al],.int .i64 (nn - 1)] W fun e w'=>e = .returned (.agg #[.int .i64 mh,.int .u64 ml])/\Below W.heap.size W w':=by
  intro W;have:=h_S a k ha (by omega) (nn - 1) (by omega) W;rw [em,ea] at this;exact this
 have s3:∀ W:World,Below w.heap.size w W->Calls Tryz.prog 182 #[.agg #[.int .i64 ah,.int .u64 al]] W fun e w'=>∃ z:Int,e = .returned (.int .i64 z)/\0<=z/\z<=128/\Hid (z < (k:Int)↔a % 2 ^ k≠0)/\Below W.heap.size W w':=by
  intro W hb;have:=l_Q a ha W (hT.out.up hb);rw [ea] at this;refine this.mono ?_;rintro e w' ⟨z,rfl,z0,z1,hz,aZ⟩;exact ⟨z,rfl,z0,z1,hz.out k (by omega),aZ⟩
 have s4:∀ W:World,Calls Tryz.prog 19 #[.int .i64 1] W fun e w'=>e = .returned (.agg #[.int .i64 0,.int .u64 1])/\Below W.heap.size W w':=by
  intro W;have:=of_any 1 (by unfold InR;omega) W;rw [j_N] at this;exact this
 have s5:∀ W:World,Calls Tryz.prog 11 #[.agg #[.int .i64 lh,.int .u64 U],.agg #[.int .i64 0,.int .u64 1]] W fun e w'=>e = .returned (.agg #[.int .i64 uh,.int .u64 ul])/\Below W.heap.size W w':=by
  intro W;have:=add_any (a / 2 ^ (k+1)) 1 hq (by unfold InW;omega) W;rw [n_7 aw,eu,el,j_N] at this;exact this
 have R:Hid ((ml % 2=0->rqI a (2 ^ (k+1))=a / 2 ^ (k+1))/\(ml % 2=1->rqI a (2 ^ (k+1))=a / 2 ^ (k+1)+(if U % 2=1∨a % 2 ^ k≠0 then 1 else 0))):=by
  constructor
  ·intro h;have:=Hm.out;exact q_f a k (by omega)
  ·intro h;have h1:=Hm.out;have h2:=Hl.out;have h3:(a / 2 ^ (k+1) % 2=1)↔U % 2=1:=by omega
   rw [s_Y a k (by omega)];simp only [h3]
 have EL:Hid (wd (a / 2 ^ (k+1)) = .agg #[.int .i64 lh,.int .u64 U]):=el;have EU:Hid (wd (a / 2 ^ (k+1)+1) = .agg #[.int .i64 uh,.int .u64 ul]):=eu;have HK:Hid (nn=(k:Int)+1):=hn
 have ad:Hid (∀ z:Int,(z < (k:Int)↔a % 2 ^ k≠0)->¬ (ml % 2=1/\(z < nn - 1∨U % 2=1))->wd (rqI a (2 ^ (k+1))) = .agg #[.int .i64 lh,.int .u64 U]):=by
  intro z hz hc;rw [<- el]
  congr 1
  have hR:=R.out;by_cases c:ml % 2=0
  ·exact hR.1 c
  ·rw [hR.2 (by omega),if_neg (by omega)];omega
 have aC:Hid (∀ z:Int,(z < (k:Int)↔a % 2 ^ k≠0)->(ml % 2=1/\(z < nn - 1∨U % 2=1))->wd (rqI a (2 ^ (k+1))) = .agg #[.int .i64 uh,.int .u64 ul]):=by
  intro z hz hc;rw [<- eu]
  congr 1
  have hR:=R.out;rw [hR.2 (by omega),if_pos (by omega)]
 have bq:1<=nn/\nn<=126:=by omega
 rw [ea];clear ea el em eu hn hk R EL EU Hl Hm Hu Ha;go_enter Tryz.func177,Tryz.ntmps177;go_wp2_with fail
 refine (s1 _).mono ?_;rintro e' J ⟨rfl,M⟩;have aX:Below w.heap.size w J:=Below.trans (by go_grown) (M.mono (by first|omega|(simp;try omega)));have a5:=M.size
 (try simp at a5)
 have bn:w.heap.size < J.heap.size:=(by omega)
 have aQ:J.cell? ⟨w.heap.size,0,none⟩=some (.int .i64 ah):=keep M (by first|assumption|simp [go_sem, *]);have ax:J.frozen? ⟨w.heap.size,0,none⟩=false:=a_U M (v:=.int .i64 ah) (by first|assumption|simp [go_sem, *]) (by first|assumption|simp [go_sem, *]);have aA:J.cell? ⟨w.heap.size,1,none⟩=some (.int .u64 al):=keep M (by first|assumption|simp [go_sem, *]);have ay:J.frozen? ⟨w.heap.size,1,none⟩=false:=a_U M (v:=.int .u64 al) (by first|assumption|simp [go_sem, *]) (by first|assumption|simp [go_sem, *]);have bm:(w.heap.size+1) < J.heap.size:=(by omega)
 have aH:J.cell? ⟨(w.heap.size+1),0,none⟩=some (.int .i64 0):=keep M (by first|assumption|simp [go_sem, *]);have au:J.frozen? ⟨(w.heap.size+1),0,none⟩=false:=a_U M (v:=.int .i64 0) (by first|assumption|simp [go_sem, *]) (by first|assumption|simp [go_sem, *]);have ap:J.cell? ⟨(w.heap.size+1),1,none⟩=some (.int .u64 0):=keep M (by first|assumption|simp [go_sem, *]);have az:J.frozen? ⟨(w.heap.size+1),1,none⟩=false:=a_U M (v:=.int .u64 0) (by first|assumption|simp [go_sem, *]) (by first|assumption|simp [go_sem, *]);clear M;go_wp2_with fail
 refine (s2 _).mono ?_;rintro e' w2 ⟨rfl,H⟩;have aI:Below w.heap.size w w2:=Below.trans (by go_grown) (H.mono (by first|omega|(simp;try omega)));have aV:=H.size
 (try simp at aV)
 have bk:w.heap.size < w2.heap.size:=(by omega)
 have aR:w2.cell? ⟨w.heap.size,0,none⟩=some (.int .i64 ah):=keep H (by first|assumption|simp [go_sem, *]);have aK:w2.frozen? ⟨w.heap.size,0,none⟩=false:=a_U H (v:=.int .i64 ah) (by first|assumption|simp [go_sem, *]) (by first|assumption|simp [go_sem, *]);have aO:w2.cell? ⟨w.heap.size,1,none⟩=some (.int .u64 al):=keep H (by first|assumption|simp [go_sem, *]);have ai:w2.frozen? ⟨w.heap.size,1,none⟩=false:=a_U H (v:=.int .u64 al) (by first|assumption|simp [go_sem, *]) (by first|assumption|simp [go_sem, *]);have bh:(w.heap.size+1) < w2.heap.size:=(by omega)
 have aj:w2.cell? ⟨(w.heap.size+1),0,none⟩=some (.int .i64 0):=keep H (by first|assumption|simp [go_sem, *]);have ao:w2.frozen? ⟨(w.heap.size+1),0,none⟩=false:=a_U H (v:=.int .i64 0) (by first|assumption|simp [go_sem, *]) (by first|assumption|simp [go_sem, *]);have aS:w2.cell? ⟨(w.heap.size+1),1,none⟩=some (.int .u64 0):=keep H (by first|assumption|simp [go_sem, *]);have aN:w2.frozen? ⟨(w.heap.size+1),1,none⟩=false:=a_U H (v:=.int .u64 0) (by first|assumption|simp [go_sem, *]) (by first|assumption|simp [go_sem, *]);have a9:J.heap.size < w2.heap.size:=(by omega)
 have aJ:w2.cell? ⟨J.heap.size,0,none⟩=some (.int .i64 lh):=keep H (by first|assumption|simp [go_sem, *]);have av:w2.frozen? ⟨J.heap.size,0,none⟩=false:=a_U H (v:=.int .i64 lh) (by first|assumption|simp [go_sem, *]) (by first|assumption|simp [go_sem, *]);have ak:w2.cell? ⟨J.heap.size,1,none⟩=some (.int .u64 U):=keep H (by first|assumption|simp [go_sem, *]);have am:w2.frozen? ⟨J.heap.size,1,none⟩=false:=a_U H (v:=.int .u64 U) (by first|assumption|simp [go_sem, *]) (by first|assumption|simp [go_sem, *]);clear H;clear aX aQ aA ax ay aH ap au az;go_wp2_with fail
 refine (s3 _ aI).mono ?_;rintro e' w3 ⟨z,rfl,z0,z1,Hz,L⟩;have br:Below w.heap.size w w3:=Below.trans (by go_grown) (L.mono (by first|omega|(simp;try omega)));have a0:=L.size
 (try simp at a0)
 have a8:w.heap.size < w3.heap.size:=(by omega)
 have be:w3.cell? ⟨w.heap.size,0,none⟩=some (.int .i64 ah):=keep L (by first|assumption|simp [go_sem, *]);have a6:w3.frozen? ⟨w.heap.size,0,none⟩=false:=a_U L (v:=.int .i64 ah) (by first|assumption|simp [go_sem, *]) (by first|assumption|simp [go_sem, *]);have bf:w3.cell? ⟨w.heap.size,1,none⟩=some (.int .u64 al):=keep L (by first|assumption|simp [go_sem, *]);have bj:w3.frozen? ⟨w.heap.size,1,none⟩=false:=a_U L (v:=.int .u64 al) (by first|assumption|simp [go_sem, *]) (by first|assumption|simp [go_sem, *]);have bd:(w.heap.size+1) < w3.heap.size:=(by omega)
 have ae:w3.cell? ⟨(w.heap.size+1),0,none⟩=some (.int .i64 0):=keep L (by first|assumption|simp [go_sem, *]);have bb:w3.frozen? ⟨(w.heap.size+1),0,none⟩=false:=a_U L (v:=.int .i64 0) (by first|assumption|simp [go_sem, *]) (by first|assumption|simp [go_sem, *]);have ac:w3.cell? ⟨(w.heap.size+1),1,none⟩=some (.int .u64 0):=keep L (by first|assumption|simp [go_sem, *]);have a7:w3.frozen? ⟨(w.heap.size+1),1,none⟩=false:=a_U L (v:=.int .u64 0) (by first|assumption|simp [go_sem, *]) (by first|assumption|simp [go_sem, *]);have bi:J.heap.size < w3.heap.size:=(by omega)
 have ba:w3.cell? ⟨J.heap.size,0,none⟩=some (.int .i64 lh):=keep L (by first|assumption|simp [go_sem, *]);have bg:w3.frozen? ⟨J.heap.size,0,none⟩=false:=a_U L (v:=.int .i64 lh) (by first|assumption|simp [go_sem, *]) (by first|assumption|simp [go_sem, *]);have bc:w3.cell? ⟨J.heap.size,1,none⟩=some (.int .u64 U):=keep L (by first|assumption|simp [go_sem, *]);have bl:w3.frozen? ⟨J.heap.size,1,none⟩=false:=a_U L (v:=.int .u64 U) (by first|assumption|simp [go_sem, *]) (by first|assumption|simp [go_sem, *]);clear L;clear aI aR aO aK ai aj aS ao aN aJ ak av am;have V:=Hz.out;by_cases c1:ml % 2=1
 ·by_cases c2:z < nn - 1
  ·have E:Hid _:=aC.out z V (by omega);clear V;go_wp2_with fail
   go_region_with (first|(go_at_call 19;refine (s4 _).mono ?_;rintro e' O ⟨rfl,D⟩;have aW:Below w.heap.size w O:=Below.trans (by go_grown) (D.mono (by first|omega|(simp;try omega)));have ag:=D.size;(try simp at ag);have aT:(w.heap.size+1) < O.heap.size:=(by omega);have aB:O.cell? ⟨(w.heap.size+1),0,none⟩=some (.int .i64 0):=keep D (by first|assumption|simp [go_sem, *]);have aP:O.frozen? ⟨(w.heap.size+1),0,none⟩=false:=a_U D (v:=.int .i64 0) (by first|assumption|simp [go_sem, *]) (by first|assumption|simp [go_sem, *]);have aG:O.cell? ⟨(w.heap.size+1),1,none⟩=some (.int .u64 0):=keep D (by first|assumption|simp [go_sem, *]);have aL:O.frozen? ⟨(w.heap.size+1),1,none⟩=false:=a_U D (v:=.int .u64 0) (by first|assumption|simp [go_sem, *]) (by first|assumption|simp [go_sem, *]);have ar:J.heap.size < O.heap.size:=(by omega);have aq:O.cell? ⟨J.heap.size,0,none⟩=some (.int .i64 lh):=keep D (by first|assumption|simp [go_sem, *]);have aM:O.frozen? ⟨J.heap.size,0,none⟩=false:=a_U D (v:=.int .i64 lh) (by first|assumption|simp [go_sem, *]) (by first|assumption|simp [go_sem, *]);have aF:O.cell? ⟨J.heap.size,1,none⟩=some (.int .u64 U):=keep D (by first|assumption|simp [go_sem, *]);have aD:O.frozen? ⟨J.heap.size,1,none⟩=false:=a_U D (v:=.int .u64 U) (by first|assumption|simp [go_sem, *]) (by first|assumption|simp [go_sem, *]);clear D)|(go_at_call 11;refine (s5 _).mono ?_;rintro e' w5 ⟨rfl,I⟩;have aY:Below w.heap.size w w5:=Below.trans (by go_grown) (I.mono (by first|omega|(simp;try omega)));have af:=I.size;(try simp at af);have aU:(w.heap.size+1) < w5.heap.size:=(by omega);have aa:w5.cell? ⟨(w.heap.size+1),0,none⟩=some (.int .i64 0):=keep I (by first|assumption|simp [go_sem, *]);have an:w5.frozen? ⟨(w.heap.size+1),0,none⟩=false:=a_U I (v:=.int .i64 0) (by first|assumption|simp [go_sem, *]) (by first|assumption|simp [go_sem, *]);have ab:w5.cell? ⟨(w.heap.size+1),1,none⟩=some (.int .u64 0):=keep I (by first|assumption|simp [go_sem, *]);have aE:w5.frozen? ⟨(w.heap.size+1),1,none⟩=false:=a_U I (v:=.int .u64 0) (by first|assumption|simp [go_sem, *]) (by first|assumption|simp [go_sem, *]);clear I))
   all_goals
    go_wp2;obtain ⟨f0,f1⟩:=two w5 (w.heap.size+1) (.int .i64 uh) (.int .u64 ul) aa ab;exact bodyPost_ret (v:=.agg #[.int .i64 uh,.int .u64 ul]) (by simp [results,Tryz.results177,go_sem,f0,f1]) rfl ⟨by rw [E.out],by go_grown⟩
  ·by_cases c3:U % 2=1
   ·have E:Hid _:=aC.out z V (by omega);clear V;go_wp2_with fail
    go_region_with (first|(go_at_call 19;refine (s4 _).mono ?_;rintro e' O ⟨rfl,D⟩;have aW:Below w.heap.size w O:=Below.trans (by go_grown) (D.mono (by first|omega|(simp;try omega)));have ag:=D.size;(try simp at ag);have aT:(w.heap.size+1) < O.heap.size:=(by omega);have aB:O.cell? ⟨(w.heap.size+1),0,none⟩=some (.int .i64 0):=keep D (by first|assumption|simp [go_sem, *]);have aP:O.frozen? ⟨(w.heap.size+1),0,none⟩=false:=a_U D (v:=.int .i64 0) (by first|assumption|simp [go_sem, *]) (by first|assumption|simp [go_sem, *]);have aG:O.cell? ⟨(w.heap.size+1),1,none⟩=some (.int .u64 0):=keep D (by first|assumption|simp [go_sem, *]);have aL:O.frozen? ⟨(w.heap.size+1),1,none⟩=false:=a_U D (v:=.int .u64 0) (by first|assumption|simp [go_sem, *]) (by first|assumption|simp [go_sem, *]);have ar:J.heap.size < O.heap.size:=(by omega);have aq:O.cell? ⟨J.heap.size,0,none⟩=some (.int .i64 lh):=keep D (by first|assumption|simp [go_sem, *]);have aM:O.frozen? ⟨J.heap.size,0,none⟩=false:=a_U D (v:=.int .i64 lh) (by first|assumption|simp [go_sem, *]) (by first|assumption|simp [go_sem, *]);have aF:O.cell? ⟨J.heap.size,1,none⟩=some (.int .u64 U):=keep D (by first|assumption|simp [go_sem, *]);have aD:O.frozen? ⟨J.heap.size,1,none⟩=false:=a_U D (v:=.int .u64 U) (by first|assumption|simp [go_sem, *]) (by first|assumption|simp [go_sem, *]);clear D)|(go_at_call 11;refine (s5 _).mono ?_;rintro e' w5 ⟨rfl,I⟩;have aY:Below w.heap.size w w5:=Below.trans (by go_grown) (I.mono (by first|omega|(simp;try omega)));have af:=I.size;(try simp at af);have aU:(w.heap.size+1) < w5.heap.size:=(by omega);have aa:w5.cell? ⟨(w.heap.size+1),0,none⟩=some (.int .i64 0):=keep I (by first|assumption|simp [go_sem, *]);have an:w5.frozen? ⟨(w.heap.size+1),0,none⟩=false:=a_U I (v:=.int .i64 0) (by first|assumption|simp [go_sem, *]) (by first|assumption|simp [go_sem, *]);have ab:w5.cell? ⟨(w.heap.size+1),1,none⟩=some (.int .u64 0):=keep I (by first|assumption|simp [go_sem, *]);have aE:w5.frozen? ⟨(w.heap.size+1),1,none⟩=false:=a_U I (v:=.int .u64 0) (by first|assumption|simp [go_sem, *]) (by first|assumption|simp [go_sem, *]);clear I))
    all_goals
     go_wp2;obtain ⟨f0,f1⟩:=two w5 (w.heap.size+1) (.int .i64 uh) (.int .u64 ul) aa ab;exact bodyPost_ret (v:=.agg #[.int .i64 uh,.int .u64 ul]) (by simp [results,Tryz.results177,go_sem,f0,f1]) rfl ⟨by rw [E.out],by go_grown⟩
   ·have bp:(U % 2==1)=false:=by simpa using c3
    have E:Hid _:=ad.out z V (by omega);clear V;go_wp2;obtain ⟨f0,f1⟩:=two w3 (w.heap.size+1) (.int .i64 lh) (.int .u64 U) ae ac;exact bodyPost_ret (v:=.agg #[.int .i64 lh,.int .u64 U]) (by simp [results,Tryz.results177,go_sem,f0,f1]) rfl ⟨by rw [E.out],by go_grown⟩
 ·have bo:(ml % 2==1)=false:=by simpa using c1
  have E:Hid _:=ad.out z V (by omega);clear V;go_wp2;obtain ⟨f0,f1⟩:=two w3 (w.heap.size+1) (.int .i64 lh) (.int .u64 U) ae ac;exact bodyPost_ret (v:=.agg #[.int .i64 lh,.int .u64 U]) (by simp [results,Tryz.results177,go_sem,f0,f1]) rfl ⟨by rw [E.out],by go_grown⟩
theorem l_T (a D:Int) (E:InW a) (J:InR D) (w:World) (H:Hid (Tz w)):
  Calls Tryz.prog 177 #[wd a,.int .i64 D] w fun e I=>e = .returned (wd (if D < 1∨126 < D then a else rqI a (2 ^ D.toNat)))/\Below w.heap.size w I:=by
 by_cases h:D < 1∨126 < D
 ·rw [if_pos h];exact k_F a D E h J w
 ·rw [if_neg h];have:=l_S a D (D.toNat - 1) E (by omega) (by omega) w H;rw [show D.toNat - 1+1=D.toNat by omega] at this;exact this
end Go.Proofs.YtcpbhhlepdgdkaaGreatDoor.Wd
