/- What the functions of package wide hand  -/
import Derived.Test.YtkfpainpomobfaaGreatDoorR04
set_option linter.unusedVariables false
set_option linter.unusedSimpArgs false
set_option maxHeartbeats 16000000
set_option maxRecDepth 16000
namespace Go.Proofs.YtkfpainpomobfaaGreatDoor.Wd
open Go.RowKit Fx List World Nat
theorem q_0 (h:Int) (k:Nat) (A:-9223372036854775808<=h) (E:h<=9223372036854775807):InR (h / 2 ^ k):=by
 have hp:(0:Int) < 2 ^ k:=Int.pow_pos (by decide);unfold InR;constructor
 ·rw [Int.le_ediv_iff_mul_le hp];have:(-9223372036854775808:Int)*2 ^ k<=-9223372036854775808*1:=Int.mul_le_mul_of_nonpos_left (by decide) (by omega);omega
 ·have:h / 2 ^ k < 9223372036854775808:=Int.ediv_lt_of_lt_mul hp (by
   have:(9223372036854775808:Int)*1<=9223372036854775808*2 ^ k:=Int.mul_le_mul_of_nonneg_left (by omega) (by decide);omega)
  omega
theorem i_e (a:Int) (n:Nat) (ha:InW a) (hn:n<=126) (A:Int) (en:A=(n:Int)) (w:World):
  Calls Tryz.prog 219 #[wd a,.int .i64 A] w fun e Z=>e = .returned (wd (a / 2 ^ n))/\Below w.heap.size w Z:=by
 obtain ⟨I,al,ea,a1,a2,a3,a4,Ha⟩:=words ha;have aa:0<=A/\A<=126:=by omega
 have En:Hid _:=en;rw [ea];clear ea en;by_cases h:64<=A
 ·have O:=q_0 I (A - 64).toNat a1 a2
  have M:a / 2 ^ n=I / 2 ^ (A - 64).toNat:=by
   have J:=Ha.out;have h2:=En.out;rw [s_h a n (by omega)];have:a / 18446744073709551616=I:=by omega
   rw [this]
   congr 2
   omega
  have hs:∀ W:World,Calls Tryz.prog 185 #[.int .i64 (I / 2 ^ (A - 64).toNat)] W fun e Z=>e = .returned (wd (a / 2 ^ n))/\Below W.heap.size W Z:=by
   intro W;rw [M];exact of_any _ O W
  have L:=InR.w O;rw [<- M] at L;obtain ⟨h',l,e,J,h2,l1,l2,H⟩:=words L;rw [e] at hs ⊢;clear e M O L;go_enter Tryz.func219,Tryz.ntmps219;go_wp2_with fail
  refine (hs _).mono ?_;rintro e' w1 ⟨rfl,hb⟩;obtain ⟨E,R⟩:=bcell hb;have hB:Below w.heap.size w w1:=Below.trans (by go_grown) (hb.mono (by simp;try omega));have V:=hb.size;simp at V;go_wp2;obtain ⟨f0,f1⟩:=two w1 (w.heap.size+1) (.int .i64 h') (.int .u64 l) (by rw [E _ _ (by simp)];simp [go_sem];rfl) (by rw [E _ _ (by simp)];simp [go_sem];rfl);refine bodyPost_ret (v:=.agg #[.int .i64 h',.int .u64 l]) (by simp [results,Tryz.results219,go_sem,f0,f1]) rfl ⟨rfl,by go_grown⟩
 ·go_enter Tryz.func219,Tryz.ntmps219;go_wp2;go_region;go_wp2;refine bodyPost_ret (v:=.agg #[.int .i64 (I / 2 ^ A.toNat),.int .u64 (bits .or .u64 (IntKind.u64.wrap (IntKind.u64.wrap I*2 ^ (64 - A).toNat)) (al / 2 ^ A.toNat))]) (by simp [results,Tryz.results219,go_sem]) rfl ⟨?_,by go_grown⟩;have J:=Ha.out;have h2:=En.out;have e1:A.toNat=n:=by omega
  have e2:(64 - A).toNat=64 - n:=by omega
  rw [e1,e2];apply s_g
  ·rw [t_B,show a / 18446744073709551616=I by omega]
  ·rw [IntKind.wrap_u64,IntKind.wrap_u64,J,<- t_C I al n (by omega) (by omega)]
   congr 1
   rw [Int.mul_emod,Int.emod_emod,<- Int.mul_emod]
/-- The table of the lowest bits' places, as its variable holds it. -/
def Tz (w:World):Prop:=∀ j,j < 64->w.cell? ⟨6,j,none⟩=some (.int .u8 (Lib.deBruijn64tab.getD j 0))
theorem b_W {w:World} {b o:Nat} {v:Value} (h:w.cell? ⟨b,o,none⟩=some v):b < w.heap.size:=by
 by_cases c:b < w.heap.size
 ·exact c
 ·exfalso;unfold cell? at h;rw [show w.heap[b]?=none from by simp;omega] at h;simp at h
theorem keep {W A:World} {b o:Nat} {v:Value} (hb:Below W.heap.size W A) (h:W.cell? ⟨b,o,none⟩=some v:=by first|assumption|simp [go_sem, *]):A.cell? ⟨b,o,none⟩=some v:=by
 rw [(bcell hb).1 _ _ (b_W h)];exact h
theorem b_j {W A:World} {b o:Nat} {v:Value} (hb:Below W.heap.size W A) (h:W.cell? ⟨b,o,none⟩=some v:=by first|assumption|simp [go_sem, *]) (hf:W.frozen? ⟨b,o,none⟩=false:=by first|assumption|simp [go_sem, *]):A.frozen? ⟨b,o,none⟩=false:=by
 rw [(bcell hb).2 _ _ (b_W h)];exact hf
theorem Tz.up {w A:World} (h:Tz w) (hb:Below w.heap.size w A):Tz A:=by
 intro j H;have E:=h j H;rw [(bcell hb).1 _ _ (b_W E)];exact E
theorem q_1 (w:World):
  Calls Tryz.prog 205 #[.int .u64 0] w fun e A=>e = .returned (.int .i64 64)/\A=w:=by
 go_enter Tryz.func205,Tryz.ntmps205;go_wp2;go_ret;exact ⟨rfl,rfl⟩
theorem q_2 (x k A:Nat) (w:World) (I:((x:Int)==0)=false)
  (E:IntKind.u64.wrap (bits BinOp.and IntKind.u64 (x:Int) (IntKind.u64.wrap (-(x:Int)))*285870213051353865) / 288230376151711744=(A:Int))
  (L:A < 64) (M:k < 64) (H:w.cell? ⟨6,A,none⟩=some (.int .u8 k)):
  Calls Tryz.prog 205 #[.int .u64 x] w fun e J=>e = .returned (.int .i64 k)/\J=w:=by
 go_enter Tryz.func205,Tryz.ntmps205;go_wp2_with (simp only [E])
 go_ret;exact ⟨rfl,rfl⟩
theorem p_2 (x:Nat) (J:x < 18446744073709551616) (w:World) (O:Tz w):
  Calls Tryz.prog 205 #[.int .u64 x] w fun e R=>e = .returned (.int .i64 (Lib.ctz 64 x))/\R=w:=by
 by_cases E:x=0
 ·subst E;exact q_1 w
 ·obtain ⟨I,M⟩:=Lib.lowest_bit 64 x E J;obtain ⟨L,H⟩:=Lib.deBruijn64_at _ M;have A:=O _ L;rw [H] at A;exact q_2 x _ _ w (by simpa using E) (tz64_key x _ J E I) L M A
/-- How many of the lowest bits of both words are 0. -/
theorem s_j (h l:Int) (k:Nat) (L:k<=127) (J:-9223372036854775808<=h) (M:h<=9223372036854775807) (I:l=0) (x:Nat) (E:(x:Int)=h % 18446744073709551616):
  (64+(Lib.ctz 64 x:Int) < (k:Int))↔(h*18446744073709551616+l) % 2 ^ k≠0:=by
 subst I;by_cases c:k<=64
 ·have:(h*18446744073709551616+0) % 2 ^ k=0:=by
   have e:(18446744073709551616:Int)=2 ^ (64 - k)*2 ^ k:=by rw [<- Int.pow_add,show 64 - k+k=64 by omega];rfl
   rw [Int.add_zero,e,<- Int.mul_assoc];exact Int.mul_emod_left ..
  omega
 ·have e:(h*18446744073709551616+0) % 2 ^ k=18446744073709551616*(h % 2 ^ (k - 64)):=by
   rw [Int.add_zero,Int.mul_comm,show (2:Int) ^ k=18446744073709551616*2 ^ (k - 64) by
    rw [show (18446744073709551616:Int)=2 ^ 64 by rfl,<- Int.pow_add,show 64+(k - 64)=k by omega]]
   exact Int.mul_emod_mul_of_pos _ _ (by decide)
  rw [e]
  have H:h % 2 ^ (k - 64)=((x % 2 ^ (k - 64):Nat):Int):=by
   rw [Int.natCast_emod,E,Int.natCast_pow]
   exact (Int.emod_emod_of_dvd h (by
    refine ⟨2 ^ (64 - (k - 64)),?_⟩;show (18446744073709551616:Int)=2 ^ (k - 64)*2 ^ (64 - (k - 64));rw [<- Int.pow_add,show k - 64+(64 - (k - 64))=64 by omega];rfl)).symm
  rw [H];by_cases A:x=0
  ·subst A;have:Lib.ctz 64 0=64:=rfl;rw [this];simp;omega
  ·have:=p_1 x (k - 64) (by omega) (by omega);omega
theorem s_k (h l:Int) (k:Nat) (x:Nat) (A:0 < x) (E:(x:Int)=l) (L:l<=18446744073709551615):
  ((Lib.ctz 64 x:Int) < (k:Int))↔(h*18446744073709551616+l) % 2 ^ k≠0:=by
 have J:=p_1 x k A (by omega);by_cases c:k<=64
 ·have e:(h*18446744073709551616+l) % 2 ^ k=((x % 2 ^ k:Nat):Int):=by
   have e:(18446744073709551616:Int)=2 ^ (64 - k)*2 ^ k:=by rw [<- Int.pow_add,show 64 - k+k=64 by omega];rfl
   rw [e,<- Int.mul_assoc,Int.add_comm,Int.add_mul_emod_self_right,<- E,Int.natCast_emod,Int.natCast_pow];rfl
  rw [e];omega
 ·have I:Lib.ctz 64 x < 64:=(Lib.lowest_bit 64 x (by omega) (by omega)).2;constructor
  ·intro _ H
   have e:((h*18446744073709551616+l) % 2 ^ k) % 18446744073709551616=l:=by
    rw [Int.emod_emod_of_dvd _ (by
     refine ⟨2 ^ (k - 64),?_⟩;rw [show (18446744073709551616:Int)=2 ^ 64 by rfl,<- Int.pow_add,show 64+(k - 64)=k by omega])]
    omega
   rw [H] at e;omega
  ·intro _;omega
theorem m_s (a:Int) (ha:InW a) (w:World) (Z:Hid (Tz w)):
  Calls Tryz.prog 220 #[wd a] w fun e H=>∃ z:Int,e = .returned (.int .i64 z)/\0<=z/\z<=128/\Hid (∀ k:Nat,k<=127->(z < (k:Int)↔a % 2 ^ k≠0))/\Below w.heap.size w H:=by
 obtain ⟨I,J,V,a1,a2,a3,a4,O⟩:=words ha;rw [V];clear V;by_cases h:J=0
 ·subst h;obtain ⟨x,E⟩:=Int.eq_ofNat_of_zero_le (Int.emod_nonneg I (show (18446744073709551616:Int)≠0 by decide));obtain ⟨z,A⟩:∃ z:Int,(Lib.ctz 64 x:Int)=z:=⟨_,rfl⟩
  have hz:0<=z/\z<=64:=by
   by_cases c:x=0
   ·subst c;have:Lib.ctz 64 0=64:=rfl;omega
   ·have:=(Lib.lowest_bit 64 x c (by omega)).2;omega
  have M:∀ W:World,Below w.heap.size w W->Calls Tryz.prog 205 #[.int .u64 (IntKind.u64.wrap I)] W fun e H=>e = .returned (.int .i64 z)/\H=W:=by
   intro W hb;have:=p_2 x (by omega) W (Z.out.up hb);rw [A] at this;rw [IntKind.wrap_u64,E];exact this
  have L:Hid (∀ k:Nat,k<=127->(64+z < (k:Int)↔a % 2 ^ k≠0)):=by
   intro k R;rw [O.out,<- A];exact s_j I 0 k R a1 a2 rfl x E.symm
  clear A E;go_enter Tryz.func220,Tryz.ntmps220;go_wp2_with (go_at_call 205;refine (M _ (by go_grown)).mono ?_;rintro e' w2 ⟨rfl,rfl⟩)
  go_ret;exact ⟨_,rfl,by omega,by omega,L,by go_grown⟩
 ·have h':(J==0)=false:=by simpa using h
  obtain ⟨x,E⟩:=Int.eq_ofNat_of_zero_le a3;obtain ⟨z,A⟩:∃ z:Int,(Lib.ctz 64 x:Int)=z:=⟨_,rfl⟩
  have hz:0<=z/\z<=64:=by
   have:=(Lib.lowest_bit 64 x (by omega) (by omega)).2;omega
  have M:∀ W:World,Below w.heap.size w W->Calls Tryz.prog 205 #[.int .u64 J] W fun e H=>e = .returned (.int .i64 z)/\H=W:=by
   intro W hb;have:=p_2 x (by omega) W (Z.out.up hb);rw [A] at this;rw [E];exact this
  have L:Hid (∀ k:Nat,k<=127->(z < (k:Int)↔a % 2 ^ k≠0)):=by
   intro k R;rw [O.out,<- A];exact s_k I J k x (by omega) E.symm a4
  clear A E;go_enter Tryz.func220,Tryz.ntmps220;go_wp2_with (go_at_call 205;refine (M _ (by go_grown)).mono ?_;rintro e' w2 ⟨rfl,rfl⟩)
  go_ret;exact ⟨_,rfl,by omega,by omega,L,by go_grown⟩
theorem i_f (p q:Int) (W:World):Sem.run Tryz.prog (Instr.field 205 (.agg #[.int .i64 p,.int .u64 q]) 0) W = .ok (.int .i64 p) W:=by
 kernel_rfl
theorem i_g (p q:Int) (W:World):Sem.run Tryz.prog (Instr.field 205 (.agg #[.int .i64 p,.int .u64 q]) 1) W = .ok (.int .u64 q) W:=by
 kernel_rfl
attribute [local go_sem] i_f i_g
theorem p_3:wd 1 = .agg #[.int .i64 0,.int .u64 1]:=(o_U (by decide) (by decide)).symm
theorem m_t (a:Int) (n:Nat) (A:InW a):InW (a / 2 ^ n):=by
 have hp:(0:Int) < 2 ^ n:=Int.pow_pos (by decide);unfold InW at *;constructor
 ·rw [Int.le_ediv_iff_mul_le hp];have:(-170141183460469231731687303715884105728:Int)*2 ^ n<=-170141183460469231731687303715884105728*1:=Int.mul_le_mul_of_nonpos_left (by decide) (by omega);omega
 ·exact Int.ediv_lt_of_lt_mul hp (by
   have:(170141183460469231731687303715884105728:Int)*1<=170141183460469231731687303715884105728*2 ^ n:=Int.mul_le_mul_of_nonneg_left (by omega) (by decide);omega)
theorem q_3 (a:Int) (k:Nat) (A:InW a):InW (a / 2 ^ (k+1)+1):=by
 have h:=m_t a k A;rw [Int.pow_succ,<- dd a (Int.pow_pos (by decide))];unfold InW at *;omega
theorem l_e (a A:Int) (H:InW a) (I:A < 1∨126 < A) (J:InR A) (w:World):
  Calls Tryz.prog 210 #[wd a,.int .i64 A] w fun e L=>e = .returned (wd a)/\Below w.heap.size w L:=by
 obtain ⟨M,O,E,Z,a2,V,a4,R⟩:=words H;rw [E];clear E;unfold InR at J;rcases I with h|h
 all_goals
  go_enter Tryz.func210,Tryz.ntmps210;go_wp2;exact bodyPost_ret (v:=.agg #[.int .i64 M,.int .u64 O]) (by simp [results,Tryz.results210,go_sem]) rfl ⟨rfl,by go_grown⟩
theorem m_u (a nn:Int) (k:Nat) (ha:InW a) (hn:nn=(k:Int)+1) (hk:k<=125) (w:World) (hT:Hid (Tz w)):
  Calls Tryz.prog 210 #[wd a,.int .i64 nn] w fun e w'=>e = .returned (wd (rqI a (2 ^ (k+1))))/\Below w.heap.size w w':=by
 have hq:=m_t a (k+1) ha;have hp:=m_t a k ha;have aH:=q_3 a k ha;obtain ⟨ah,al,ea,a1,a2,a3,a4,Ha⟩:=words ha;obtain ⟨lh,V,el,l1,l2,l3,l4,Hl⟩:=words hq;obtain ⟨mh,ml,em,m1,m2,m3,m4,Hm⟩:=words hp;obtain ⟨uh,ul,eu,u1,u2,u3,u4,Hu⟩:=words aH
 have s1:∀ W:World,Calls Tryz.prog 219 #[.agg #[.int .i64 ah,.int .u64 al],.int .i64 nn] W fun e w'=>e = .returned (.agg #[.int .i64 lh,.int .u64 V])/\Below W.heap.size W w':=by
  intro W;have:=i_e a (k+1) ha (by omega) nn (by omega) W;rw [el,ea] at this;exact this
 have s2:∀ W:World,Calls Tryz.prog 219 #[.agg #[.int .i64 ah,.int .u64 al],.int .i64 (nn - 1)] W fun e w'=>e = .returned (.agg #[.int .i64 mh,.int .u64 ml])/\Below W.heap.size W w':=by
  intro W;have:=i_e a k ha (by omega) (nn - 1) (by omega) W;rw [em,ea] at this;exact this
 have s3:∀ W:World,Below w.heap.size w W->Calls Tryz.prog 220 #[.agg #[.int .i64 ah,.int .u64 al]] W fun e w'=>∃ z:Int,e = .returned (.int .i64 z)/\0<=z/\z<=128/\Hid (z < (k:Int)↔a % 2 ^ k≠0)/\Below W.heap.size W w':=by
  intro W hb;have:=m_s a ha W (hT.out.up hb);rw [ea] at this;refine this.mono ?_;rintro e w' ⟨z,rfl,z0,z1,hz,aZ⟩;exact ⟨z,rfl,z0,z1,hz.out k (by omega),aZ⟩
 have s4:∀ W:World,Calls Tryz.prog 185 #[.int .i64 1] W fun e w'=>e = .returned (.agg #[.int .i64 0,.int .u64 1])/\Below W.heap.size W w':=by
  intro W;have:=of_any 1 (by unfold InR;omega) W;rw [p_3] at this;exact this
 have s5:∀ W:World,Calls Tryz.prog 187 #[.agg #[.int .i64 lh,.int .u64 V],.agg #[.int .i64 0,.int .u64 1]] W fun e w'=>e = .returned (.agg #[.int .i64 uh,.int .u64 ul])/\Below W.heap.size W w':=by
  intro W;have:=add_any (a / 2 ^ (k+1)) 1 hq (by unfold InW;omega) W;rw [s_f aH,eu,el,p_3] at this;exact this
 have R:Hid ((ml % 2=0->rqI a (2 ^ (k+1))=a / 2 ^ (k+1))/\(ml % 2=1->rqI a (2 ^ (k+1))=a / 2 ^ (k+1)+(if V % 2=1∨a % 2 ^ k≠0 then 1 else 0))):=by
  constructor
  ·intro h;have:=Hm.out;exact rq_down a k (by omega)
  ·intro h;have h1:=Hm.out;have h2:=Hl.out;have h3:(a / 2 ^ (k+1) % 2=1)↔V % 2=1:=by omega
   rw [rq_up a k (by omega)];simp only [h3]
 have EL:Hid (wd (a / 2 ^ (k+1)) = .agg #[.int .i64 lh,.int .u64 V]):=el;have EU:Hid (wd (a / 2 ^ (k+1)+1) = .agg #[.int .i64 uh,.int .u64 ul]):=eu;have HK:Hid (nn=(k:Int)+1):=hn
 have ad:Hid (∀ z:Int,(z < (k:Int)↔a % 2 ^ k≠0)->¬ (ml % 2=1/\(z < nn - 1∨V % 2=1))->wd (rqI a (2 ^ (k+1))) = .agg #[.int .i64 lh,.int .u64 V]):=by
  intro z hz hc;rw [<- el]
  congr 1
  have hR:=R.out;by_cases c:ml % 2=0
  ·exact hR.1 c
  ·rw [hR.2 (by omega),if_neg (by omega)];omega
 have aC:Hid (∀ z:Int,(z < (k:Int)↔a % 2 ^ k≠0)->(ml % 2=1/\(z < nn - 1∨V % 2=1))->wd (rqI a (2 ^ (k+1))) = .agg #[.int .i64 uh,.int .u64 ul]):=by
  intro z hz hc;rw [<- eu]
  congr 1
  have hR:=R.out;rw [hR.2 (by omega),if_pos (by omega)]
 have bs:1<=nn/\nn<=126:=by omega
 rw [ea];clear ea el em eu hn hk R EL EU Hl Hm Hu Ha;go_enter Tryz.func210,Tryz.ntmps210;go_wp2_with fail
 refine (s1 _).mono ?_;rintro e' J ⟨rfl,M⟩;have aW:Below w.heap.size w J:=Below.trans (by go_grown) (M.mono (by first|omega|(simp;try omega)));have a5:=M.size
 (try simp at a5)
 have bj:w.heap.size < J.heap.size:=(by omega)
 have aO:J.cell? ⟨w.heap.size,0,none⟩=some (.int .i64 ah):=keep M;have ax:J.frozen? ⟨w.heap.size,0,none⟩=false:=b_j M (v:=.int .i64 ah);have aG:J.cell? ⟨w.heap.size,1,none⟩=some (.int .u64 al):=keep M;have av:J.frozen? ⟨w.heap.size,1,none⟩=false:=b_j M (v:=.int .u64 al);have a9:(w.heap.size+1) < J.heap.size:=(by omega)
 have aE:J.cell? ⟨(w.heap.size+1),0,none⟩=some (.int .i64 0):=keep M;have am:J.frozen? ⟨(w.heap.size+1),0,none⟩=false:=b_j M (v:=.int .i64 0);have aM:J.cell? ⟨(w.heap.size+1),1,none⟩=some (.int .u64 0):=keep M;have ay:J.frozen? ⟨(w.heap.size+1),1,none⟩=false:=b_j M (v:=.int .u64 0);clear M;go_wp2_with fail
 refine (s2 _).mono ?_;rintro e' w2 ⟨rfl,I⟩;have an:Below w.heap.size w w2:=Below.trans (by go_grown) (I.mono (by first|omega|(simp;try omega)));have a0:=I.size
 (try simp at a0)
 have bd:w.heap.size < w2.heap.size:=(by omega)
 have aD:w2.cell? ⟨w.heap.size,0,none⟩=some (.int .i64 ah):=keep I;have aI:w2.frozen? ⟨w.heap.size,0,none⟩=false:=b_j I (v:=.int .i64 ah);have ap:w2.cell? ⟨w.heap.size,1,none⟩=some (.int .u64 al):=keep I;have aL:w2.frozen? ⟨w.heap.size,1,none⟩=false:=b_j I (v:=.int .u64 al);have bm:(w.heap.size+1) < w2.heap.size:=(by omega)
 have aP:w2.cell? ⟨(w.heap.size+1),0,none⟩=some (.int .i64 0):=keep I;have aw:w2.frozen? ⟨(w.heap.size+1),0,none⟩=false:=b_j I (v:=.int .i64 0);have ak:w2.cell? ⟨(w.heap.size+1),1,none⟩=some (.int .u64 0):=keep I;have aR:w2.frozen? ⟨(w.heap.size+1),1,none⟩=false:=b_j I (v:=.int .u64 0);have bi:J.heap.size < w2.heap.size:=(by omega)
 have ar:w2.cell? ⟨J.heap.size,0,none⟩=some (.int .i64 lh):=keep I;have az:w2.frozen? ⟨J.heap.size,0,none⟩=false:=b_j I (v:=.int .i64 lh);have aT:w2.cell? ⟨J.heap.size,1,none⟩=some (.int .u64 V):=keep I;have ao:w2.frozen? ⟨J.heap.size,1,none⟩=false:=b_j I (v:=.int .u64 V);clear I;clear aW aO aG ax av aE aM am ay;go_wp2_with fail
 refine (s3 _ an).mono ?_;rintro e' w3 ⟨z,rfl,z0,z1,Hz,H⟩;have br:Below w.heap.size w w3:=Below.trans (by go_grown) (H.mono (by first|omega|(simp;try omega)));have aY:=H.size
 (try simp at aY)
 have bn:w.heap.size < w3.heap.size:=(by omega)
 have a8:w3.cell? ⟨w.heap.size,0,none⟩=some (.int .i64 ah):=keep H;have bb:w3.frozen? ⟨w.heap.size,0,none⟩=false:=b_j H (v:=.int .i64 ah);have bk:w3.cell? ⟨w.heap.size,1,none⟩=some (.int .u64 al):=keep H;have bc:w3.frozen? ⟨w.heap.size,1,none⟩=false:=b_j H (v:=.int .u64 al);have bh:(w.heap.size+1) < w3.heap.size:=(by omega)
 have ac:w3.cell? ⟨(w.heap.size+1),0,none⟩=some (.int .i64 0):=keep H;have be:w3.frozen? ⟨(w.heap.size+1),0,none⟩=false:=b_j H (v:=.int .i64 0);have ae:w3.cell? ⟨(w.heap.size+1),1,none⟩=some (.int .u64 0):=keep H;have ba:w3.frozen? ⟨(w.heap.size+1),1,none⟩=false:=b_j H (v:=.int .u64 0);have bo:J.heap.size < w3.heap.size:=(by omega)
 have bp:w3.cell? ⟨J.heap.size,0,none⟩=some (.int .i64 lh):=keep H;have bg:w3.frozen? ⟨J.heap.size,0,none⟩=false:=b_j H (v:=.int .i64 lh);have bl:w3.cell? ⟨J.heap.size,1,none⟩=some (.int .u64 V):=keep H;have a7:w3.frozen? ⟨J.heap.size,1,none⟩=false:=b_j H (v:=.int .u64 V);clear H;clear an aD ap aI aL aP ak aw aR ar aT az ao;have Z:=Hz.out;by_cases c1:ml % 2=1
 ·by_cases c2:z < nn - 1
  ·have E:Hid _:=aC.out z Z (by omega);clear Z;go_wp2_with fail
   go_region_with (first|(go_at_call 185;refine (s4 _).mono ?_;rintro e' O ⟨rfl,A⟩;have a6:Below w.heap.size w O:=Below.trans (by go_grown) (A.mono (by first|omega|(simp;try omega)));have ag:=A.size;(try simp at ag);have aB:(w.heap.size+1) < O.heap.size:=(by omega);have aj:O.cell? ⟨(w.heap.size+1),0,none⟩=some (.int .i64 0):=keep A;have aN:O.frozen? ⟨(w.heap.size+1),0,none⟩=false:=b_j A (v:=.int .i64 0);have aV:O.cell? ⟨(w.heap.size+1),1,none⟩=some (.int .u64 0):=keep A;have aS:O.frozen? ⟨(w.heap.size+1),1,none⟩=false:=b_j A (v:=.int .u64 0);have aJ:J.heap.size < O.heap.size:=(by omega);have aF:O.cell? ⟨J.heap.size,0,none⟩=some (.int .i64 lh):=keep A;have aQ:O.frozen? ⟨J.heap.size,0,none⟩=false:=b_j A (v:=.int .i64 lh);have aU:O.cell? ⟨J.heap.size,1,none⟩=some (.int .u64 V):=keep A;have ai:O.frozen? ⟨J.heap.size,1,none⟩=false:=b_j A (v:=.int .u64 V);clear A)|(go_at_call 187;refine (s5 _).mono ?_;rintro e' w5 ⟨rfl,L⟩;have aX:Below w.heap.size w w5:=Below.trans (by go_grown) (L.mono (by first|omega|(simp;try omega)));have af:=L.size;(try simp at af);have aq:(w.heap.size+1) < w5.heap.size:=(by omega);have ab:w5.cell? ⟨(w.heap.size+1),0,none⟩=some (.int .i64 0):=keep L;have aA:w5.frozen? ⟨(w.heap.size+1),0,none⟩=false:=b_j L (v:=.int .i64 0);have aa:w5.cell? ⟨(w.heap.size+1),1,none⟩=some (.int .u64 0):=keep L;have au:w5.frozen? ⟨(w.heap.size+1),1,none⟩=false:=b_j L (v:=.int .u64 0);clear L))
   all_goals
    go_wp2;obtain ⟨f0,f1⟩:=two w5 (w.heap.size+1) (.int .i64 uh) (.int .u64 ul) ab aa;exact bodyPost_ret (v:=.agg #[.int .i64 uh,.int .u64 ul]) (by simp [results,Tryz.results210,go_sem,f0,f1]) rfl ⟨by rw [E.out],by go_grown⟩
  ·by_cases c3:V % 2=1
   ·have E:Hid _:=aC.out z Z (by omega);clear Z;go_wp2_with fail
    go_region_with (first|(go_at_call 185;refine (s4 _).mono ?_;rintro e' O ⟨rfl,A⟩;have a6:Below w.heap.size w O:=Below.trans (by go_grown) (A.mono (by first|omega|(simp;try omega)));have ag:=A.size;(try simp at ag);have aB:(w.heap.size+1) < O.heap.size:=(by omega);have aj:O.cell? ⟨(w.heap.size+1),0,none⟩=some (.int .i64 0):=keep A;have aN:O.frozen? ⟨(w.heap.size+1),0,none⟩=false:=b_j A (v:=.int .i64 0);have aV:O.cell? ⟨(w.heap.size+1),1,none⟩=some (.int .u64 0):=keep A;have aS:O.frozen? ⟨(w.heap.size+1),1,none⟩=false:=b_j A (v:=.int .u64 0);have aJ:J.heap.size < O.heap.size:=(by omega);have aF:O.cell? ⟨J.heap.size,0,none⟩=some (.int .i64 lh):=keep A;have aQ:O.frozen? ⟨J.heap.size,0,none⟩=false:=b_j A (v:=.int .i64 lh);have aU:O.cell? ⟨J.heap.size,1,none⟩=some (.int .u64 V):=keep A;have ai:O.frozen? ⟨J.heap.size,1,none⟩=false:=b_j A (v:=.int .u64 V);clear A)|(go_at_call 187;refine (s5 _).mono ?_;rintro e' w5 ⟨rfl,L⟩;have aX:Below w.heap.size w w5:=Below.trans (by go_grown) (L.mono (by first|omega|(simp;try omega)));have af:=L.size;(try simp at af);have aq:(w.heap.size+1) < w5.heap.size:=(by omega);have ab:w5.cell? ⟨(w.heap.size+1),0,none⟩=some (.int .i64 0):=keep L;have aA:w5.frozen? ⟨(w.heap.size+1),0,none⟩=false:=b_j L (v:=.int .i64 0);have aa:w5.cell? ⟨(w.heap.size+1),1,none⟩=some (.int .u64 0):=keep L;have au:w5.frozen? ⟨(w.heap.size+1),1,none⟩=false:=b_j L (v:=.int .u64 0);clear L))
    all_goals
     go_wp2;obtain ⟨f0,f1⟩:=two w5 (w.heap.size+1) (.int .i64 uh) (.int .u64 ul) ab aa;exact bodyPost_ret (v:=.agg #[.int .i64 uh,.int .u64 ul]) (by simp [results,Tryz.results210,go_sem,f0,f1]) rfl ⟨by rw [E.out],by go_grown⟩
   ·have bt:(V % 2==1)=false:=by simpa using c3
    have E:Hid _:=ad.out z Z (by omega);clear Z;go_wp2;obtain ⟨f0,f1⟩:=two w3 (w.heap.size+1) (.int .i64 lh) (.int .u64 V) ac ae;exact bodyPost_ret (v:=.agg #[.int .i64 lh,.int .u64 V]) (by simp [results,Tryz.results210,go_sem,f0,f1]) rfl ⟨by rw [E.out],by go_grown⟩
 ·have bq:(ml % 2==1)=false:=by simpa using c1
  have E:Hid _:=ad.out z Z (by omega);clear Z;go_wp2;obtain ⟨f0,f1⟩:=two w3 (w.heap.size+1) (.int .i64 lh) (.int .u64 V) ac ae;exact bodyPost_ret (v:=.agg #[.int .i64 lh,.int .u64 V]) (by simp [results,Tryz.results210,go_sem,f0,f1]) rfl ⟨by rw [E.out],by go_grown⟩
theorem m_v (a A:Int) (E:InW a) (H:InR A) (w:World) (I:Hid (Tz w)):
  Calls Tryz.prog 210 #[wd a,.int .i64 A] w fun e J=>e = .returned (wd (if A < 1∨126 < A then a else rqI a (2 ^ A.toNat)))/\Below w.heap.size w J:=by
 by_cases h:A < 1∨126 < A
 ·rw [if_pos h];exact l_e a A E h H w
 ·rw [if_neg h];have:=m_u a A (A.toNat - 1) E (by omega) (by omega) w I;rw [show A.toNat - 1+1=A.toNat by omega] at this;exact this
end Go.Proofs.YtkfpainpomobfaaGreatDoor.Wd
namespace Go.Proofs.YtkfpainpomobfaaGreatDoor.Wd
open Go.RowKit Fx List World Nat
/-- A number that lies in the two cells of a block, which may be written. -/
def Lies (W:World) (b:Nat) (x:Int):Prop:=
 b < W.heap.size/\W.cell? ⟨b,0,none⟩=some (.int .i64 (x / 18446744073709551616))/\W.cell? ⟨b,1,none⟩=some (.int .u64 (x % 18446744073709551616))/\W.frozen? ⟨b,0,none⟩=false/\W.frozen? ⟨b,1,none⟩=false
theorem Lies.up {W W':World} {b:Nat} {x:Int} (h:Lies W b x) (hb:Below W.heap.size W W'):Lies W' b x:=
 ⟨Nat.lt_of_lt_of_le h.1 hb.size,keep hb h.2.1,keep hb h.2.2.1,b_j hb h.2.1 h.2.2.2.1,b_j hb h.2.2.1 h.2.2.2.2⟩
theorem a_A (W:World) (p q:Addr) (x:Value):(W.setCell p x).frozen? q=W.frozen? q:=by simp
theorem Lies.off {W:World} {b c:Nat} {x:Int} {y0 y1:Value} (h:Lies W b x) (A:b≠c):Lies ((W.setCell ⟨c,0,none⟩ y0).setCell ⟨c,1,none⟩ y1) b x:=by
 refine ⟨by simpa using h.1,?_,?_,?_,?_⟩
 ·rw [cell?_setCell_other _ _ _ _ (by simp;try omega),cell?_setCell_other _ _ _ _ (by simp;try omega)];exact h.2.1
 ·rw [cell?_setCell_other _ _ _ _ (by simp;try omega),cell?_setCell_other _ _ _ _ (by simp;try omega)];exact h.2.2.1
 ·rw [a_A,a_A];exact h.2.2.2.1
 ·rw [a_A,a_A];exact h.2.2.2.2
theorem Lies.set {W:World} {b:Nat} {x y yh yl:Int} (h:Lies W b x) (E:yh=y / 18446744073709551616) (I:yl=y % 18446744073709551616):Lies ((W.setCell ⟨b,0,none⟩ (.int .i64 yh)).setCell ⟨b,1,none⟩ (.int .u64 yl)) b y:=by
 obtain ⟨A,H⟩:=two W b (.int .i64 yh) (.int .u64 yl) h.2.1 h.2.2.1;refine ⟨by simpa using h.1,?_,?_,?_,?_⟩
 ·rw [A,E]
 ·rw [H,I]
 ·rw [a_A,a_A];exact h.2.2.2.1
 ·rw [a_A,a_A];exact h.2.2.2.2
theorem j_9 (x y:Int) (E:InW x) (H:InW y) (A:InW (x+y)) (W:World):
  Calls Tryz.prog 187 #[wd x,wd y] W fun e I=>e = .returned (wd (x+y))/\Below W.heap.size W I:=by
 have:=add_any x y E H W;rw [s_f A] at this;exact this
theorem c_L {W:World} {b c i j:Nat} {x:Value} (h:c≠b):(W.setCell ⟨b,j,none⟩ x).cell? ⟨c,i,none⟩=W.cell? ⟨c,i,none⟩:=cell?_setCell_other _ _ _ _ (by simp;try omega)
theorem c_A (W:World) (b:Nat) (q:Addr) (J I E H A:Value):(((((W.setCell ⟨b,0,none⟩ J).setCell ⟨b,1,none⟩ I).setCell ⟨b,2,none⟩ E).setCell ⟨b,3,none⟩ H).setCell ⟨b,4,none⟩ A).frozen? q=W.frozen? q:=
 (a_A _ _ _ _).trans ((a_A _ _ _ _).trans ((a_A _ _ _ _).trans ((a_A _ _ _ _).trans (a_A _ _ _ _))))
theorem m_w (W:World) (b:Nat) (J I E H A:Value):(((((W.setCell ⟨b,0,none⟩ J).setCell ⟨b,1,none⟩ I).setCell ⟨b,2,none⟩ E).setCell ⟨b,3,none⟩ H).setCell ⟨b,4,none⟩ A).heap.size=W.heap.size:=by simp
theorem d_X {B:Nat} {a w:World} (h:Below B a w) (b:Nat) (hb:B<=b) (J I E H A:Value):Below B a (((((w.setCell ⟨b,0,none⟩ J).setCell ⟨b,1,none⟩ I).setCell ⟨b,2,none⟩ E).setCell ⟨b,3,none⟩ H).setCell ⟨b,4,none⟩ A):=
 ((((h.setCell (p:=⟨b,0,none⟩) hb J).setCell (p:=⟨b,1,none⟩) hb I).setCell (p:=⟨b,2,none⟩) hb E).setCell (p:=⟨b,3,none⟩) hb H).setCell (p:=⟨b,4,none⟩) hb A
end Go.Proofs.YtkfpainpomobfaaGreatDoor.Wd
namespace Go.Proofs.YtkfpainpomobfaaGreatDoor.Wd
open Go.RowKit List World Nat
open Fx
def b_C (f:Nat->Int):Nat->Int
 | 0=>0
 | n+1=>b_C f n+f n
theorem b_3 {f g:Nat->Int}:∀ n,(∀ k,k < n->f k=g k)->b_C f n=b_C g n
 | 0,_=>rfl
 | n+1,h=>by rw [b_C,b_C,b_3 n (fun k A=>h k (by omega)),h n (by omega)]
theorem e_O {f:Nat->Int} {B:Int} (E:0<=B):∀ n,(∀ k,k < n->-B<=f k/\f k<=B)->-(B*n)<=b_C f n/\b_C f n<=B*n
 | 0,_=>by simp [b_C]
 | n+1,h=>by
  have H:=e_O E n (fun k I=>h k (by omega));have J:=h n (by omega);have A:B*((n+1:Nat):Int)=B*n+B:=by push_cast;rw [Int.mul_add,Int.mul_one]
  rw [b_C,A];omega
theorem i_h (x:Int) (j:Nat):∀ n,b_C (fun q=>if q=j then x else 0) n=if j < n then x else 0
 | 0=>by simp [b_C]
 | n+1=>by
  rw [b_C,i_h x j n];by_cases A:n=j
  ·subst A;simp
  ·by_cases E:j < n
   ·simp [A,E];omega
   ·simp [A,E];omega
/-- A sum by 2^32, rounded once, held. -/
def rnd (x:Int):Int:=hold (rqI x 4294967296)
theorem prod_rng {a b:Int} (A:InR a) (hb:InR b):-85070591730234615865843651857942052864<=a*b/\a*b<=85070591730234615865843651857942052864:=by
 unfold InR at A hb
 have E:(a*b).natAbs<=9223372036854775808*9223372036854775808:=by
  rw [Int.natAbs_mul];exact Nat.mul_le_mul (by omega) (by omega)
 omega
theorem b_y {l:List Int} (h:∀ y,y∈l->InR y) (k:Nat):InR (l.getD k 0):=by
 by_cases A:k < l.length
 ·have:l.getD k 0=l[k]:=by simp [A]
  rw [this];exact h _ (getElem_mem A)
 ·rw [h_c _ _ _ (by omega)];unfold InR;omega
/-- The number at i of a product: k the side that meets, m the product's second side. -/
def u_z (k m:Nat) (a b:List Int) (i:Nat):Int:=rnd (b_C (fun q=>a.getD (i / m*k+q) 0*b.getD (q*m+i % m) 0) k)
def t_l (n k m:Nat) (a b:List Int):List Int:=(range (n*m)).map (u_z k m a b)
/-- Where the number i of a matrix of n by m turned round (m by n) stood. -/
def t_G (n m i:Nat):Nat:=i % n*m+i / n
def o_Y (n m:Nat) (a:List Int):List Int:=(range (n*m)).map fun i=>a.getD (t_G n m i) 0
theorem b_8 (p m r:Nat) (h:r < m):(p*m+r) / m=p:=by
 rw [Nat.mul_comm,mul_add_div (by omega),div_eq_of_lt h,Nat.add_zero]
theorem c_l (p m r:Nat) (h:r < m):(p*m+r) % m=r:=by
 rw [Nat.mul_comm,mul_add_mod,mod_eq_of_lt h]
theorem b_D {p n m r:Nat} (hp:p < n) (A:r < m):p*m+r < n*m:=by
 have:(p+1)*m<=n*m:=mul_le_mul_right m hp;rw [Nat.add_mul] at this;omega
theorem k_a {i n m:Nat} (h:i < n*m):i / n < m:=Nat.div_lt_of_lt_mul h
theorem k_b {i n m:Nat} (h:i < n*m):0 < n:=by
 rcases eq_zero_or_pos n with A|A
 ·subst A;omega
 ·exact A
/-- A place with a number more at one side. -/
theorem k_c (c k:Nat) (E:List Nat) (I:∀ x,x∈E->1<=x):∀ (H:List Nat) (i:Nat),(∀ x,x∈H->1<=x)->i < a_f (H++E)->
  c_b (H++c :: E) ((a_G (H++E) i).take H.length++k :: (a_G (H++E) i).drop H.length)=(i / a_f E*c+k)*a_f E+i % a_f E
 | [],i,_,J=>by
  have J:i < a_f E:=J;simp only [nil_append,length_nil,take_zero,drop_zero,c_b];rw [g_B E i I J,div_eq_of_lt J,mod_eq_of_lt J];simp
 | x :: H,i,hp,J=>by
  have Z:1<=a_f (H++E):=a_X fun y L=>by
   rcases mem_append.1 L with h|h
   ·exact hp y (mem_cons_of_mem _ h)
   ·exact I y h
  have V:=k_c c k E I H (i % a_f (H++E)) (fun y L=>hp y (mem_cons_of_mem _ L)) (mod_lt _ Z);simp only [cons_append,a_G,length_cons,take_succ_cons,drop_succ_cons,c_b];rw [V];have hP:=a_X I;have e1:a_f (H++c :: E)=a_f H*(c*a_f E):=by rw [a_M,a_f]
  have e2:=a_M H E;rw [e1,e2];have M:=div_add_mod i (a_f H*a_f E);generalize a_f H=A at *;generalize a_f E=P at *;generalize i / (A*P)=y at *;generalize i % (A*P)=j at *
  have O:i=P*(A*y)+j:=by
   rw [<- M,Nat.mul_comm A P,Nat.mul_assoc]
  have h4:i / P=A*y+j / P:=by rw [O,mul_add_div (by omega)]
  have h5:i % P=j % P:=by rw [O,mul_add_mod]
  rw [h4,h5]
  have R:((A*y+j / P)*c+k)*P=y*(A*(c*P))+(j / P*c+k)*P:=by
   rw [Nat.add_mul (A*y),Nat.add_assoc,Nat.add_mul (A*y*c)]
   congr 1
   rw [Nat.mul_assoc (A*y),Nat.mul_comm A y,Nat.mul_assoc y]
  rw [R,Nat.add_assoc]
/-- The number at i of the sum along a side of c, P the product of the sides behind it. -/
def t_m (c P:Nat) (v:List Int) (i:Nat):Int:=hold (b_C (fun k=>v.getD ((i / P*c+k)*P+i % P) 0) c)
def c_M (v:List Int):Int:=b_C (fun k=>v.getD k 0) v.length
def s_l (v:List Int):Int:=hold (rqI (c_M v) v.length)
theorem m_x {v:List Int} (A:∀ y,y∈v->InR y):-(9223372036854775808*(v.length:Int))<=c_M v/\c_M v<=9223372036854775808*v.length:=
 e_O (by omega) _ fun k _=>by have:=b_y A k;unfold InR at this;omega
/-- A shape without one of its sides. -/
def a_R (d:List Nat) (s:Nat):List Nat:=d.take s++d.drop (s+1)
theorem f_b (d:List Nat) (s:Nat) (h:s < d.length):d=d.take s++d.getD s 0 :: d.drop (s+1):=by
 have e:d.getD s 0=d[s]:=by simp [h]
 rw [e,<- drop_eq_getElem_cons h,take_append_drop]
theorem f_c (d:List Nat) (s:Nat) (h:s < d.length):a_f (a_R d s)*d.getD s 0=a_f d:=by
 have e:=congrArg a_f (f_b d s h);rw [a_M,a_f] at e;rw [a_R,a_M,e,Nat.mul_assoc,Nat.mul_comm (a_f (d.drop (s+1)))]
theorem h_r {d:List Nat} (A:goodN d) (s:Nat) (h:s < d.length):1<=d.getD s 0:=by
 have e:d.getD s 0=d[s]:=by simp [h]
 rw [e];exact A.2.1 _ (getElem_mem h)
theorem c_X {d:List Nat} (A:goodN d) (s:Nat) (h:s < d.length):goodN (a_R d s):=by
 refine ⟨?_,fun x E=>?_,?_⟩
 ·have:=A.1;simp only [a_R,length_append,length_take,length_drop];omega
 ·rcases mem_append.1 E with h|h
  ·exact A.2.1 x (mem_of_mem_take h)
  ·exact A.2.1 x (mem_of_mem_drop h)
 ·have H:=f_c d s h;have I:a_f (a_R d s)*1<=a_f (a_R d s)*d.getD s 0:=mul_le_mul_left _ (h_r A s h);have:=A.2.2;omega
/-- A place of the shape without the side s, with k there. -/
def o_e (p:List Nat) (s k:Nat):List Nat:=p.take s++k :: p.drop s
theorem j_c {d:List Nat} (E:goodN d) (s:Nat) (h:s < d.length) (i k:Nat) (H:i < a_f (a_R d s)):
  c_b d (o_e (a_G (a_R d s) i) s k)=(i / a_f (d.drop (s+1))*d.getD s 0+k)*a_f (d.drop (s+1))+i % a_f (d.drop (s+1)):=by
 have e:=k_c (d.getD s 0) k (d.drop (s+1)) (fun x A=>E.2.1 x (mem_of_mem_drop A)) (d.take s) i (fun x A=>E.2.1 x (mem_of_mem_take A)) H;rw [<- f_b d s h,length_take,Nat.min_eq_left (by omega)] at e;exact e
theorem g_S:∀ {a p b q:List Nat},b_F a p->b_F b q->b_F (a++b) (p++q)
 | [],[],_,_,_,h=>h
 | x :: a,y :: p,b,q,h1,h2=>⟨h1.1,g_S h1.2 h2⟩
 | [],_ :: _,_,_,h,_=>h.elim
 | _ :: _,[],_,_,h,_=>h.elim
theorem f_d:∀ {a b p:List Nat},b_F (a++b) p->b_F a (p.take a.length)/\b_F b (p.drop a.length)
 | [],b,p,h=>⟨trivial,h⟩
 | x :: a,b,y :: p,h=>⟨⟨h.1,(f_d h.2).1⟩,(f_d h.2).2⟩
 | _ :: _,_,[],h=>h.elim
theorem g_c {d:List Nat} (I:goodN d) (s:Nat) (h:s < d.length) (i k:Nat) (H:i < a_f (a_R d s)) (L:k < d.getD s 0):b_F d (o_e (a_G (a_R d s) i) s k):=by
 have J:=d_u (a_R d s) i (c_X I s h).2.1 H;have A:=f_d (a:=d.take s) (b:=d.drop (s+1)) J;rw [length_take,Nat.min_eq_left (by omega)] at A;have E:b_F (d.take s++d.getD s 0 :: d.drop (s+1)) ((a_G (a_R d s) i).take s++k :: (a_G (a_R d s) i).drop s):=g_S A.1 ⟨L,A.2⟩;rw [<- f_b d s h] at E;exact E
theorem q_4 {d:List Nat} (E:goodN d) (s:Nat) (h:s < d.length) (i k:Nat) (A:i < a_f (a_R d s)) (H:k < d.getD s 0):(i / a_f (d.drop (s+1))*d.getD s 0+k)*a_f (d.drop (s+1))+i % a_f (d.drop (s+1)) < a_f d:=by
 rw [<- j_c E s h i k A];exact i_T (g_c E s h i k A H)
/-- The sums along the side s. -/
def m_y (d:List Nat) (s:Nat) (v:List Int):List Int:=(range (a_f (a_R d s))).map (t_m (d.getD s 0) (a_f (d.drop (s+1))) v)
theorem k_d (d:List Nat) (s:Nat) (v:List Int):(m_y d s v).length=a_f (a_R d s):=by simp [m_y]
theorem m_z (d:List Nat) (s:Nat) (v:List Int) (i:Nat) (h:i < a_f (a_R d s)):(m_y d s v).getD i 0=t_m (d.getD s 0) (a_f (d.drop (s+1))) v i:=a_J _ _ _ _ h
end Go.Proofs.YtkfpainpomobfaaGreatDoor.Wd
namespace Go.Proofs.YtkfpainpomobfaaGreatDoor.Wd
open Go.RowKit Fx List World Nat
attribute [local go_sem] i_f i_g
theorem Hid.up_tz {w A:World} (h:Hid (Tz w)) (hb:Bw w A):Hid (Tz A):=h.out.up hb
theorem l_f (T:Int):hold (rqI (hold (T / 18446744073709551616)*18446744073709551616+T % 18446744073709551616) 4294967296)=rnd T:=by
 unfold rnd;by_cases h:InR (T / 18446744073709551616)
 ·rw [d_B h.1 h.2]
  congr 2
  omega
 ·unfold InR at h;unfold rqI hold
  split <;> split <;> (try split) <;> (try split) <;> (try split) <;> (try split) <;> (try split) <;> (try split) <;> omega
/-- A number of 128 bits that lies in two cells of a block, from o on, which may be written. -/
def LieA (W:World) (b o:Nat) (x:Int):Prop:=
 b < W.heap.size/\W.cell? ⟨b,o,none⟩=some (.int .i64 (x / 18446744073709551616))/\W.cell? ⟨b,o+1,none⟩=some (.int .u64 (x % 18446744073709551616))/\W.frozen? ⟨b,o,none⟩=false/\W.frozen? ⟨b,o+1,none⟩=false
theorem LieA.up {W W':World} {b o:Nat} {x:Int} (h:LieA W b o x) (hb:Bw W W'):LieA W' b o x:=
 ⟨Nat.lt_of_lt_of_le h.1 hb.size,keep hb h.2.1,keep hb h.2.2.1,b_j hb h.2.1 h.2.2.2.1,b_j hb h.2.2.1 h.2.2.2.2⟩
theorem LieA.words {W:World} {b o:Nat} {x h l:Int} (H:LieA W b o x) (e:x=h*18446744073709551616+l) (E:0<=l) (A:l<=18446744073709551615):W.cell? ⟨b,o,none⟩=some (.int .i64 h)/\W.cell? ⟨b,o+1,none⟩=some (.int .u64 l):=by
 refine ⟨?_,?_⟩
 ·rw [H.2.1,show x / 18446744073709551616=h by omega]
 ·rw [H.2.2.1,show x % 18446744073709551616=l by omega]
theorem s_m (W:World) (b o:Nat) (E A:Value) {y0 y1:Value} (I:W.cell? ⟨b,o,none⟩=some y0) (H:W.cell? ⟨b,o+1,none⟩=some y1):
  ((W.setCell ⟨b,o,none⟩ E).setCell ⟨b,o+1,none⟩ A).cell? ⟨b,o,none⟩=some E/\((W.setCell ⟨b,o,none⟩ E).setCell ⟨b,o+1,none⟩ A).cell? ⟨b,o+1,none⟩=some A:=by
 refine ⟨?_,?_⟩
 ·rw [a_D (by omega)];exact b_V I
 ·exact b_V (by rw [a_D (by omega)];exact H)
theorem LieA.set {W:World} {b o:Nat} {x y yh yl:Int} (h:LieA W b o x) (E:yh=y / 18446744073709551616) (I:yl=y % 18446744073709551616):LieA ((W.setCell ⟨b,o,none⟩ (.int .i64 yh)).setCell ⟨b,o+1,none⟩ (.int .u64 yl)) b o y:=by
 obtain ⟨A,H⟩:=s_m W b o (.int .i64 yh) (.int .u64 yl) h.2.1 h.2.2.1;refine ⟨by simpa using h.1,?_,?_,?_,?_⟩
 ·rw [A,E]
 ·rw [H,I]
 ·rw [a_A,a_A];exact h.2.2.2.1
 ·rw [a_A,a_A];exact h.2.2.2.2
theorem LieA.off {W:World} {b o p:Nat} {x:Int} {y0 y1:Value} (h:LieA W b o x) (A:o+1 < p∨p+1 < o):LieA ((W.setCell ⟨b,p,none⟩ y0).setCell ⟨b,p+1,none⟩ y1) b o x:=by
 refine ⟨by simpa using h.1,?_,?_,?_,?_⟩
 ·rw [a_D (by omega),a_D (by omega)];exact h.2.1
 ·rw [a_D (by omega),a_D (by omega)];exact h.2.2.1
 ·rw [a_A,a_A];exact h.2.2.2.1
 ·rw [a_A,a_A];exact h.2.2.2.2
/-- All stands but the four cells of the block b from o on. -/
structure Near (b o:Nat) (W W':World):Prop where
 below:Below b W W'
 stay:Stay b W W'
 cell:∀ i,(i < o∨o+4<=i)->W'.cell? ⟨b,i,none⟩=W.cell? ⟨b,i,none⟩
 frozen:∀ i,W'.frozen? ⟨b,i,none⟩=W.frozen? ⟨b,i,none⟩
theorem Near.of {b o:Nat} {W W':World} (h:Bw W W') (hb:b < W.heap.size):Near b o W W':=
 ⟨h.mono (Nat.le_of_lt hb),Stay.of h,fun i _=>(bcell h).1 _ _ hb,fun i=>(bcell h).2 _ _ hb⟩
theorem Near.trans {b o:Nat} {A B C:World} (h:Near b o A B) (k:Near b o B C):Near b o A C:=
 ⟨h.below.trans k.below,h.stay.trans k.stay,fun i E=>(k.cell i E).trans (h.cell i E),fun i=>(k.frozen i).trans (h.frozen i)⟩
theorem Near.set {b o:Nat} (W:World) (j:Nat) (x:Value) (E:o<=j) (H:j < o+4):Near b o W (W.setCell ⟨b,j,none⟩ x):=
 ⟨(Below.refl b W).setCell (p:=⟨b,j,none⟩) (Nat.le_refl _) x,(Stay.refl b W).set j x,fun i A=>a_D (by omega),fun i=>a_A _ _ _ _⟩
theorem LieA.near {W W':World} {b o p:Nat} {x:Int} (h:LieA W b p x) (A:Near b o W W') (hp:p+1 < o∨o+4<=p):LieA W' b p x:=
 ⟨Nat.lt_of_lt_of_le h.1 A.below.size,by rw [A.cell _ (by omega)];exact h.2.1,by rw [A.cell _ (by omega)];exact h.2.2.1,by rw [A.frozen];exact h.2.2.2.1,by rw [A.frozen];exact h.2.2.2.2⟩
/-- A sum of products, at most m of them, in four cells. -/
def SumAt (W:World) (b o m:Nat) (T:Int):Prop:=
 ∃ A B:Int,A*18446744073709551616+B=T/\-(4611686018427387904*(m:Int))<=A/\A<=4611686018427387904*(m:Int)/\0<=B/\B<=18446744073709551616*(m:Int)/\LieA W b o A/\LieA W b (o+2) B
theorem SumAt.up {W W':World} {b o m:Nat} {T:Int} (h:SumAt W b o m T) (hb:Bw W W'):SumAt W' b o m T:=by
 obtain ⟨A,B,e,E,J,I,M,L,H⟩:=h;exact ⟨A,B,e,E,J,I,M,L.up hb,H.up hb⟩
theorem SumAt.near {W W':World} {b o p m:Nat} {T:Int} (h:SumAt W b p m T) (E:Near b o W W') (hp:p+4<=o∨o+4<=p):SumAt W' b p m T:=by
 obtain ⟨A,B,e,H,L,J,O,M,I⟩:=h;exact ⟨A,B,e,H,L,J,O,M.near E (by omega),I.near E (by omega)⟩
theorem SumAt.more {W:World} {b o m k:Nat} {T:Int} (h:SumAt W b o m T) (L:m<=k):SumAt W b o k T:=by
 obtain ⟨A,B,e,J,M,H,O,I,E⟩:=h;exact ⟨A,B,e,by omega,by omega,H,by omega,I,E⟩
theorem SumAt.lt {W:World} {b o m:Nat} {T:Int} (h:SumAt W b o m T):b < W.heap.size:=by
 obtain ⟨A,B,e,I,J,H,M,E,L⟩:=h;exact E.1
theorem o_Z (b o m:Nat) (T X Y:Int) (hm:m<=1073741824) (hX:InR X) (hY:InR Y) (w:World) (hS:Hid (SumAt w b o m T)):
  Calls Tryz.prog 164 #[.pointer (some ⟨b,o,none⟩),.int .i64 X,.int .i64 Y] w fun e E=>e = .returned (.tuple #[])/\SumAt E b o (m+1) (T+X*Y)/\Near b o w E:=by
 obtain ⟨A,B,eT,aq,au,av,ax,LA,LB⟩:=hS.out;have hP:=prod_rng hX hY;have aa:=fun W=>o_W X Y hX hY W;obtain ⟨Pr,eP⟩:∃ P,X*Y=P:=⟨_,rfl⟩
 rw [eP] at hP aa ⊢;obtain ⟨H,Z,ep,p1,aG,p3,p4,Hp⟩:=words (v:=Pr) (by unfold InW;omega);have ar:(m:Int)<=1073741824:=by omega
 have ad:InR H:=⟨by omega,by omega⟩
 have aw:-4611686018427387904<=H/\H<=4611686018427387904:=by have:=Hp.out;omega
 obtain ⟨oh,ol,eo,o1,aF,o3,o4,Ho⟩:=words (InR.w ad);obtain ⟨ah,al,ea,a1,a2,a3,a4,Ha⟩:=words (v:=A) (by unfold InW;omega);obtain ⟨J,O,aj,aE,aC,aA,aB,am⟩:=words (v:=A+H) (by unfold InW;omega);obtain ⟨bh,bl,eb,b1,b2,b3,b4,Hb⟩:=words (v:=B) (by unfold InW;omega);obtain ⟨L,I,ao,aH,ay,az,aD,af⟩:=words (v:=B+Z) (by unfold InW;omega);have el:wd Z = .agg #[.int .i64 0,.int .u64 Z]:=(o_U (by omega) (by omega)).symm
 have an:∀ W:World,Calls Tryz.prog 203 #[.int .i64 X,.int .i64 Y] W fun e E=>e = .returned (.agg #[.int .i64 H,.int .u64 Z])/\Bw W E:=by
  intro W;have:=aa W;rw [ep] at this;exact this
 have ak:∀ W:World,Calls Tryz.prog 185 #[.int .i64 H] W fun e E=>e = .returned (.agg #[.int .i64 oh,.int .u64 ol])/\Bw W E:=by
  intro W;have:=of_any H ad W;rw [eo] at this;exact this
 have cA:∀ W:World,Calls Tryz.prog 187 #[.agg #[.int .i64 ah,.int .u64 al],.agg #[.int .i64 oh,.int .u64 ol]] W fun e E=>e = .returned (.agg #[.int .i64 J,.int .u64 O])/\Bw W E:=by
  intro W;have:=j_9 A H (by unfold InW;omega) (InR.w ad) (by unfold InW;omega) W;rw [ea,eo,aj] at this;exact this
 have cB:∀ W:World,Calls Tryz.prog 187 #[.agg #[.int .i64 bh,.int .u64 bl],.agg #[.int .i64 0,.int .u64 Z]] W fun e E=>e = .returned (.agg #[.int .i64 L,.int .u64 I])/\Bw W E:=by
  intro W;have:=j_9 B Z (by unfold InW;omega) (by unfold InW;omega) (by unfold InW;omega) W;rw [eb,el,ao] at this;exact this
 have HL:Hid (LieA w b o A/\LieA w b (o+2) B):=⟨LA,LB⟩
 have HF:Hid (∀ E,LieA E b o (A+H)->LieA E b (o+2) (B+Z)->SumAt E b o (m+1) (T+Pr)):=fun E h1 h2=>⟨A+H,B+Z,by have:=Hp.out;omega,by push_cast;omega,by push_cast;omega,by omega,by push_cast;omega,h1,h2⟩
 clear eP hP aa ep eo ea aj eb ao el ad aq au av ax LA LB eT hS hm ar hX hY aw;haveI:Nonempty World:=⟨w⟩
 go_enter Tryz.func164,Tryz.ntmps164;go_wp2_with fail
 refine (an _).mono ?_;rintro e w1 ⟨rfl,ab⟩;clear an;go_wp2_with fail
 generalize ae:alloc _ _=W1;have ag:Bw w1 W1:=by rw [<- ae];exact a_a w1 _
 have e0:W1.cell? ⟨w1.heap.size,0,none⟩=some (.int .i64 H):=by rw [<- ae];simp [go_sem]
 have e1:W1.cell? ⟨w1.heap.size,1,none⟩=some (.int .u64 Z):=by rw [<- ae];simp [go_sem]
 have hB:=ab.trans (ag.mono ab.size);have V:Hid (LieA W1 b o A/\LieA W1 b (o+2) B/\Near b o w W1):=⟨HL.1.up hB,HL.2.up hB,Near.of hB HL.1.1⟩
 obtain ⟨G,eG⟩:∃ G,w1.heap.size=G:=⟨_,rfl⟩
 have ai:b < G:=by rw [<- eG];exact Nat.lt_of_lt_of_le HL.1.1 ab.size
 rw [eG] at e0 e1 ⊢;have HG:Hid (b < G/\W1.cell? ⟨G,0,none⟩=some (.int .i64 H)/\W1.cell? ⟨G,1,none⟩=some (.int .u64 Z)):=⟨ai,e0,e1⟩
 clear ae ag hB ab eG HL;obtain ⟨c0,c1⟩:=V.1.words Ha.out a3 a4;have u0:=b_W c0;have u1:=b_W e0;apply e_K 11 32 (by kernel_rfl) rfl rfl (by kernel_rfl)
 ·intro F hF hFc hFf;simp only [take_succ_cons,take_zero]
  repeat (go_big_quiet_step (first|(go_at_call 185;with_reducible exact hF.call (ak _))|(go_at_call 187;with_reducible exact hF.call (cA _))))
  refine wpQuiet_nil ?_;exact rfl
 intro W2 R;simp only [drop_succ_cons,drop_zero];have M:=V.1.up R;have N1:=M.set (y:=A+H) (yh:=J) (yl:=O) (by have:=am.out;omega) (by have:=am.out;omega);have N2:=(V.2.1.up R).off (p:=o) (y0:=.int .i64 J) (y1:=.int .u64 O) (by omega);have N3:=((V.2.2.trans (Near.of R V.1.1)).trans (Near.set W2 o (.int .i64 J) (by omega) (by omega))).trans (Near.set _ (o+1) (.int .u64 O) (by omega) (by omega))
 have N4:((W2.setCell ⟨b,o,none⟩ (.int .i64 J)).setCell ⟨b,o+1,none⟩ (.int .u64 O)).cell? ⟨G,0,none⟩=some (.int .i64 H)/\((W2.setCell ⟨b,o,none⟩ (.int .i64 J)).setCell ⟨b,o+1,none⟩ (.int .u64 O)).cell? ⟨G,1,none⟩=some (.int .u64 Z):=by
  have:=HG.1;refine ⟨?_,?_⟩
  ·rw [c_L (by omega),c_L (by omega)];exact keep R HG.2.1
  ·rw [c_L (by omega),c_L (by omega)];exact keep R HG.2.2
 obtain ⟨g0,g1,g2,g3,g4⟩:=M;clear R c0 c1 u0 u1 ak cA ai e0 e1 V;go_wp2_with fail
 refine a_Q (fun W3 ap=>?_);rw [<- ap] at N1 N2 N3 N4;clear ap g0 g1 g2 g3 g4;have V:Hid (LieA W3 b o (A+H)/\LieA W3 b (o+2) B/\Near b o w W3):=⟨N1,N2,N3⟩
 obtain ⟨c0,c1⟩:=N2.words Hb.out b3 b4;obtain ⟨d0,d1⟩:=N4;have u0:=b_W c0;have u1:=b_W d0;clear N1 N2 N3;apply e_K 11 32 (by kernel_rfl) rfl rfl (by kernel_rfl)
 ·intro F hF hFc hFf;simp only [take_succ_cons,take_zero]
  repeat (go_big_quiet_step (first|(go_at_call 187;with_reducible exact hF.call (cB _))))
  refine wpQuiet_nil ?_;exact rfl
 intro W4 ac;simp only [drop_succ_cons,drop_zero];have M:=V.2.1.up ac;have N1:=M.set (y:=B+Z) (yh:=L) (yl:=I) (by have:=af.out;omega) (by have:=af.out;omega);have N2:=(V.1.up ac).off (p:=o+2) (y0:=.int .i64 L) (y1:=.int .u64 I) (by omega);have N3:=((V.2.2.trans (Near.of ac V.1.1)).trans (Near.set W4 (o+2) (.int .i64 L) (by omega) (by omega))).trans (Near.set _ (o+2+1) (.int .u64 I) (by omega) (by omega));have HE:Hid (SumAt ((W4.setCell ⟨b,o+2,none⟩ (.int .i64 L)).setCell ⟨b,o+2+1,none⟩ (.int .u64 I)) b o (m+1) (T+Pr)/\Near b o w ((W4.setCell ⟨b,o+2,none⟩ (.int .i64 L)).setCell ⟨b,o+2+1,none⟩ (.int .u64 I))):=⟨HF.out _ N2 N1,N3⟩
 obtain ⟨g0,g1,g2,g3,g4⟩:=M;clear ac c0 c1 d0 d1 u0 u1 cB V N1 N2 N3 HF HG;go_wp2
 go_end0
 exact ⟨rfl,HE.out⟩
theorem o_0 (b o m:Nat) (T:Int) (hm:m<=1073741824) (w:World) (hT:Hid (Tz w)) (hS:Hid (SumAt w b o m T)):
  Calls Tryz.prog 181 #[.pointer (some ⟨b,o,none⟩)] w fun e L=>e = .returned (.int .i64 (rnd T))/\Bw w L:=by
 obtain ⟨A,B,eT,am,av,aq,aw,LA,LB⟩:=hS.out;have ar:(m:Int)<=1073741824:=by omega
 have HD:Hid (hold (rqI (hold (T / 18446744073709551616)*18446744073709551616+T % 18446744073709551616) 4294967296)=rnd T):=l_f T;obtain ⟨D,eD⟩:∃ D,rnd T=D:=⟨_,rfl⟩
 rw [eD] at HD ⊢;obtain ⟨ah,al,ea,a1,a2,a3,a4,Ha⟩:=words (v:=A) (by unfold InW;omega);obtain ⟨O,R,eb,b1,b2,b3,b4,Hb⟩:=words (v:=B) (by unfold InW;omega);have V:InR O:=⟨b1,b2⟩
 obtain ⟨oh,ol,eo,o1,aA,o3,o4,Ho⟩:=words (InR.w V);have ap:B=O*18446744073709551616+R:=Hb.out;obtain ⟨I,J,ae,az,aC,ay,aB,ax⟩:=words (v:=A+O) (by unfold InW;omega);have eH:A+O=T / 18446744073709551616:=by omega
 have eL:R=T % 18446744073709551616:=by omega
 obtain ⟨H,aa⟩:∃ H,hold (A+O)=H:=⟨_,rfl⟩
 have rH:InR H:=by rw [<- aa];exact b_6 _
 rw [<- eH,<- eL,aa] at HD;have wS:InW (H*18446744073709551616+R):=by unfold InR at rH;unfold InW;omega
 obtain ⟨Q,eQ⟩:∃ Q,rqI (H*18446744073709551616+R) 4294967296=Q:=⟨_,rfl⟩
 have wQ:InW Q:=by rw [<- eQ];unfold rqI;unfold InW at wS ⊢;split <;> omega
 obtain ⟨qh,ql,eq,q1,q2,q3,q4,Hq⟩:=words wQ
 have ai:∀ W:World,Calls Tryz.prog 185 #[.int .i64 O] W fun e L=>e = .returned (.agg #[.int .i64 oh,.int .u64 ol])/\Bw W L:=by
  intro W;have:=of_any O V W;rw [eo] at this;exact this
 have cA:∀ W:World,Calls Tryz.prog 187 #[.agg #[.int .i64 ah,.int .u64 al],.agg #[.int .i64 oh,.int .u64 ol]] W fun e L=>e = .returned (.agg #[.int .i64 I,.int .u64 J])/\Bw W L:=by
  intro W;have:=j_9 A O (by unfold InW;omega) (InR.w V) (by unfold InW;omega) W;rw [ea,eo,ae] at this;exact this
 have cF:∀ W:World,Calls Tryz.prog 154 #[.agg #[.int .i64 I,.int .u64 J]] W fun e L=>e = .returned (.int .i64 H)/\Bw W L:=by
  intro W;have:=j_b (A+O) (by unfold InW;omega) W;rw [ae,aa] at this;exact this
 have cS:Hid (∀ W:World,Bw w W->Calls Tryz.prog 210 #[.agg #[.int .i64 H,.int .u64 R],.int .i64 32] W fun e L=>e = .returned (.agg #[.int .i64 qh,.int .u64 ql])/\Bw W L):=fun W hW=>by
  have:=m_v (H*18446744073709551616+R) 32 wS (by unfold InR;omega) W (hT.out.up hW);rw [<- t_A H R ⟨b3,by omega⟩,if_neg (by omega),show (2:Int) ^ (32:Int).toNat=4294967296 from rfl,eQ,eq] at this;exact this
 have cG:∀ W:World,Calls Tryz.prog 154 #[.agg #[.int .i64 qh,.int .u64 ql]] W fun e L=>e = .returned (.int .i64 D)/\Bw W L:=by
  intro W;have:=j_b Q wQ W;rw [eq,<- eQ,HD.out] at this;exact this
 have HL:Hid (LieA w b (o+2) B):=LB;obtain ⟨c0,c1⟩:=LA.words Ha.out a3 a4;obtain ⟨d0,d1⟩:=LB.words Hb.out b3 b4;have u0:=LA.1;clear HD am av aq aw eT eH eL aa rH wS eQ wQ ea eb eo ae eq V ap LA LB hS hm ar eD;haveI:Nonempty World:=⟨w⟩
 go_enter Tryz.func181,Tryz.ntmps181;go_wp2_with fail
 refine h_k (.cells #[.int .i64 0,.int .u64 0] 205) 11 12 27 3 (by kernel_rfl) rfl rfl (by kernel_rfl) rfl rfl rfl ?_;apply Exists.intro;refine ⟨?_,?_,?_⟩
 ·intro F hF;have hFc:=hF.cell;have hFf:=hF.frozen;simp only [take_succ_cons,take_zero,eraseIdx_cons_succ,eraseIdx_cons_zero]
  repeat (go_big_quiet_step (first|(go_at_call 185;with_reducible exact hF.call (ai _))|(go_at_call 187;with_reducible exact hF.call (cA _))))
  refine wpQuiet_nil ?_;exact rfl
 ·intro W
  kernel_rfl
 intro W6 g8 hW E;have Y0:=E.cell (i:=0) rfl;have Y1:=E.cell (i:=1) rfl;have Z0:=E.frozen 0;have Z1:=E.frozen 1;have ad:g8 < W6.heap.size:=E.1;have Z:w.heap.size<=g8:=E.2.1;have N8:=two W6 g8 (.int .i64 I) (.int .u64 J) Y0 Y1;have M:=HL.out.up hW
 have N2:((W6.setCell ⟨g8,0,none⟩ (.int .i64 I)).setCell ⟨g8,1,none⟩ (.int .u64 J)).cell? ⟨b,o+2,none⟩=some (.int .i64 O)/\((W6.setCell ⟨g8,0,none⟩ (.int .i64 I)).setCell ⟨g8,1,none⟩ (.int .u64 J)).cell? ⟨b,o+2+1,none⟩=some (.int .u64 R):=by
  have:=M.words Hb.out b3 b4;refine ⟨?_,?_⟩
  ·rw [c_L (by omega),c_L (by omega)];exact this.1
  ·rw [c_L (by omega),c_L (by omega)];exact this.2
 have B6:=b_1 hW g8 Z (.int .i64 I) (.int .u64 J);simp only [drop_succ_cons,drop_zero];unfold k_Z;clear E hW ai cA c0 c1 d0 d1 u0 M;go_wp2_with fail
 refine a_Q (fun W9 aj=>?_);rw [<- aj] at N8 N2 B6;clear aj Y0 Y1 Z0 Z1 ad;obtain ⟨c0,c1⟩:=N8;obtain ⟨d0,d1⟩:=N2;have u0:=b_W c0;have u1:=b_W d0;have af:Hid (Bw w W9):=B6;clear B6 Z;refine h_k (.cells #[.int .i64 0,.int .u64 0] 205) 8 9 27 4 (by kernel_rfl) rfl rfl (by kernel_rfl) rfl rfl rfl ?_;apply Exists.intro;refine ⟨?_,?_,?_⟩
 ·intro F hF;have hFc:=hF.cell;have hFf:=hF.frozen;simp only [take_succ_cons,take_zero,eraseIdx_cons_succ,eraseIdx_cons_zero]
  repeat (go_big_quiet_step (first|(go_at_call 154;with_reducible exact hF.call (cF _))))
  refine wpQuiet_nil ?_;exact rfl
 ·intro W
  kernel_rfl
 intro W7 g9 hW E;have Y0:=E.cell (i:=0) rfl;have Y1:=E.cell (i:=1) rfl;have Z0:=E.frozen 0;have Z1:=E.frozen 1;have ad:g9 < W7.heap.size:=E.1;have Z:w.heap.size<=g9:=Nat.le_trans af.size E.2.1;have N8:=two W7 g9 (.int .i64 H) (.int .u64 R) Y0 Y1;have B6:Hid (Bw w ((W7.setCell ⟨g9,0,none⟩ (.int .i64 H)).setCell ⟨g9,1,none⟩ (.int .u64 R))):=b_1 (af.trans (hW.mono af.size)) g9 Z _ _;have an:=B6.out;simp only [drop_succ_cons,drop_zero];unfold k_Z;clear E hW cF c0 c1 d0 d1 u0 u1;go_wp2_with fail
 clear Y0 Y1 Z0 Z1 ad an N8;refine (cS.out _ B6.out).mono ?_;rintro e ag ⟨rfl,ab⟩;have ak:Hid (Bw w ag):=B6.trans (ab.mono B6.size);clear ab cS;go_wp2_with fail
 refine (cG ag).mono ?_;rintro e ao ⟨rfl,ac⟩;have au:Hid (Bw w ao):=ak.trans (ac.mono ak.size);clear ac cG;go_wp2;go_ret;exact ⟨rfl,au.out⟩
end Go.Proofs.YtkfpainpomobfaaGreatDoor.Wd
namespace Go.Proofs.YtkfpainpomobfaaGreatDoor.Wd
open Go.RowKit Fx List World Nat
attribute [local go_sem] i_f i_g
/-- The words that lie there. -/
theorem Lies.words {W:World} {b:Nat} {x h l:Int} (H:Lies W b x) (e:x=h*18446744073709551616+l) (E:0<=l) (A:l<=18446744073709551615):W.cell? ⟨b,0,none⟩=some (.int .i64 h)/\W.cell? ⟨b,1,none⟩=some (.int .u64 l):=by
 refine ⟨?_,?_⟩
 ·rw [H.2.1,show x / 18446744073709551616=h by omega]
 ·rw [H.2.2.1,show x % 18446744073709551616=l by omega]
theorem m_A (p:Option Addr) (n c:Nat) (x:List Int) (hx:RI x) (hn:n<=4096) (w:World) (hv:Nums .i64 w (.slice p n c) x):
  Calls Tryz.prog 155 #[.slice p n c] w fun e w'=>e = .returned (wd (c_M x))/\Bw w w':=by
 obtain ⟨_,_,_,e4,HX⟩:=hv.lst;cases e4;have HS:Hid (c_M x=b_C (fun q=>x.getD q 0) n):=by show _=_;rw [c_M,HX.1]
 have HR:Hid (∀ k,k<=n->InW (b_C (fun q=>x.getD q 0) k)):=fun k hk=>by
  have h1:=e_O (f:=fun q=>x.getD q 0) (B:=9223372036854775808) (by omega) k fun q _=>by have:=b_y hx q;unfold InR at this;omega
  unfold InW;omega
 have HI:Hid (RI x):=hx;have af:(n:Int)<=4096:=by omega
 obtain ⟨T,eT⟩:∃ T,c_M x=T:=⟨_,rfl⟩
 rw [eT] at HS ⊢;clear hv hx eT;haveI:Nonempty World:=⟨w⟩
 go_enter Tryz.func155,Tryz.ntmps155;go_wp2_with fail
 go_loopg [8] n (fun g i wr=>∃ (k:Nat),k<=n/\g=n - k/\i = .int .i64 (k:Int)/\Hid (Lies wr w.heap.size 0)/\Hid (Lies wr (w.heap.size+1) (b_C (fun q=>x.getD q 0) k))/\Hid (Bw w wr))
 case atStart=>
  refine ⟨0,by omega,by omega,rfl,?_,?_,show Below _ _ _ by go_grown⟩
  ·show Lies _ _ _;unfold Lies;simp [go_sem]
  ·show Lies _ _ _;simp only [b_C];unfold Lies;simp [go_sem]
 case round=>
  obtain ⟨k,hk,hg,rfl,L0,I,HB⟩:=hrel;obtain ⟨R1,ab⟩:∃ R1:World,R1=wr:=⟨_,rfl⟩
  subst ab;by_cases ac:k < n
  ·have ae:(k:Int) < (n:Int):=by omega
   obtain ⟨q,o,rfl,aa⟩:=HX.2 k ac;have V:=a_d aa HB;have ag:=b_W V;have hX:=b_y HI.out k;have H:=HR.out k hk;have wT:=HR.out (k+1) (by omega);obtain ⟨S,eS⟩:∃ S,b_C (fun q=>x.getD q 0) k=S:=⟨_,rfl⟩
   have A:b_C (fun q=>x.getD q 0) (k+1)=S+x.getD k 0:=by rw [b_C,eS]
   rw [A] at wT;obtain ⟨X,eX⟩:∃ X,x.getD k 0=X:=⟨_,rfl⟩
   rw [eX] at V hX wT A;rw [eS] at H I;have ad:Hid (b_C (fun q=>x.getD q 0) (k+1)=S+X):=A;obtain ⟨sh,sl,es,s1,s2,s3,s4,L⟩:=words H;obtain ⟨xh,xl,J,x1,x2,x3,x4,Hx⟩:=words (InR.w hX);obtain ⟨th,tl,et,t1,t2,t3,t4,Ht⟩:=words wT
   have Z:∀ W:World,Calls Tryz.prog 185 #[.int .i64 X] W fun e w'=>e = .returned (.agg #[.int .i64 xh,.int .u64 xl])/\Bw W w':=by
    intro W;have:=of_any X hX W;rw [J] at this;exact this
   have R:∀ W:World,Calls Tryz.prog 187 #[.agg #[.int .i64 sh,.int .u64 sl],.agg #[.int .i64 xh,.int .u64 xl]] W fun e w'=>e = .returned (.agg #[.int .i64 th,.int .u64 tl])/\Bw W w':=by
    intro W;have:=j_9 S X H (InR.w hX) wT W;rw [J,es,et] at this;exact this
   obtain ⟨q0,q1⟩:=I.out.words L.out s3 s4;have O:=I.1;clear eS eX A aa es J et hX H wT;go_wp2_with fail
   apply e_K 4 18 (by kernel_rfl) rfl rfl (by kernel_rfl)
   ·intro F hF hFc hFf;simp only [take_succ_cons,take_zero]
    repeat (go_big_quiet_step (first|(go_at_call 185;with_reducible exact hF.call (Z _))|(go_at_call 187;with_reducible exact hF.call (R _))))
    refine wpQuiet_nil ?_;exact rfl
   ·intro W2 E;simp only [drop_succ_cons,drop_zero];have M:=I.out.up E;have N0:Hid (Lies ((W2.setCell ⟨w.heap.size+1,0,none⟩ (.int .i64 th)).setCell ⟨w.heap.size+1,1,none⟩ (.int .u64 tl)) w.heap.size 0):=(L0.out.up E).off (by omega);have N1:Hid (Lies ((W2.setCell ⟨w.heap.size+1,0,none⟩ (.int .i64 th)).setCell ⟨w.heap.size+1,1,none⟩ (.int .u64 tl)) (w.heap.size+1) (S+X)):=M.set (by have:=Ht.out;omega) (by have:=Ht.out;omega);have B2:Hid (Bw w ((W2.setCell ⟨w.heap.size+1,0,none⟩ (.int .i64 th)).setCell ⟨w.heap.size+1,1,none⟩ (.int .u64 tl))):=b_1 (HB.trans (E.mono HB.size)) _ (by omega) _ _;obtain ⟨g0,g1,g2,g3,g4⟩:=M;clear E Z R q0 q1 O L0 I HB;go_wp2;go_roundg (n - (k+1))
    case measure=>omega
    case rel=>exact ⟨k+1,by omega,rfl,by first|rfl|simp,N0,by rw [ad.out];exact N1,B2⟩
  ·obtain rfl:k=n:=by omega
   have H:=HR.out k hk;rw [<- HS.out] at I H;obtain ⟨sh,sl,es,s1,s2,s3,s4,L⟩:=words H;obtain ⟨q0,q1⟩:=I.out.words L.out s3 s4;obtain ⟨g0,g1,g2,g3,g4⟩:=L0.out;have O:=I.1;have cf:=L0.out.set (y:=T) (yh:=sh) (yl:=sl) (by have:=L.out;omega) (by have:=L.out;omega);have BF:=b_1 HB w.heap.size (Nat.le_refl _) (.int .i64 sh) (.int .u64 sl);obtain ⟨y0,y1⟩:=cf.words L.out s3 s4;clear cf H;go_wp2;exact bodyPost_ret (v:=.agg #[.int .i64 sh,.int .u64 sl]) (by simp [results,Tryz.results155,go_sem,y0,y1]) rfl ⟨by rw [es],BF⟩
end Go.Proofs.YtkfpainpomobfaaGreatDoor.Wd
namespace Go.Proofs.YtkfpainpomobfaaGreatDoor.Wd
open Go.RowKit Fx List World Nat
end Go.Proofs.YtkfpainpomobfaaGreatDoor.Wd
namespace Go.Proofs.YtkfpainpomobfaaGreatDoor.Wd
open Go.RowKit List World Nat
/-- What a cut of a row holds, whatever its elements' kind. -/
theorem d_Y {k:IntKind} {W:World} {p:Option Addr} {n E i j:Nat} {l:List Int} (h:i<=j) (h2:j<=n) (hl:l.length=n) (Z:n<=E) (hb:Nums k W (.slice p n E) l):Nums k W (sliced p i j E 1) ((l.drop i).take (j - i)):=by
 rcases hb with ⟨e,rfl⟩|⟨I,c',e,O⟩
 ·cases e;obtain rfl:i=0:=by omega
  obtain rfl:j=0:=by omega
  exact .inl ⟨rfl,rfl⟩
 ·cases e;have A:((l.drop i).take (j - i)).length=j - i:=by simp;omega
  unfold sliced;by_cases c:E=i
  ·rw [if_pos c]
   exact .inr ⟨I,E - i,by rw [A],fun q u J=>by
    rw [a_N,getElem?_eq_none (by rw [length_map,A];omega)] at J;cases J⟩
  ·rw [if_neg c];refine .inr ⟨I.add (i*1),E - i,by rw [A];rfl,fun q u J=>?_⟩;rw [a_N,getElem?_map] at J;obtain ⟨x,H,rfl⟩:=Option.map_eq_some_iff.1 J
   have V:q < j - i:=by
    rcases Nat.lt_or_ge q (j - i) with h|h
    ·exact h
    ·rw [getElem?_eq_none (by rw [A];exact h)] at H;cases H
   rw [getElem?_take_of_lt V,getElem?_drop] at H;have M:=O (i+q) (.int k x) (by rw [a_N,getElem?_map,H];rfl);have L:=O 0 (.int k (l[0]'(by omega))) (by rw [a_N,getElem?_map,getElem?_eq_getElem (by omega)];rfl)
   have R:I=⟨I.block,I.off,none⟩:=e_A (by
    have:I.add 0=I:=by simp [Addr.add]
    rw [this] at L;exact L)
   rw [R,a_r] at M;rw [R,Nat.mul_one,a_r,a_r,Nat.add_assoc];exact M
/-- The front of a row of one's own is one's own. -/
theorem OwnK.cut {k:IntKind} {e:TypeId} {W:World} {B:Nat} {p:Option Addr} {n c:Nat} {l:List Int} (h:OwnK k e W B (.slice p n c) l) (j:Nat) (O:j<=n):OwnK k e W B (sliced p 0 j c 1) (l.take j):=by
 obtain ⟨hl,V⟩:=h;rcases V with ⟨H,Z⟩|⟨g,L,E,H,hb,J,hc,R,M,I⟩
 ·cases H;obtain rfl:j=0:=by omega
  rw [take_zero];exact ⟨rfl,.inl ⟨by simp [sliced],rfl⟩⟩
 ·cases H;have A:(l.take j).length=j:=by rw [length_take];omega
  refine ⟨by simp [a_N],.inr ⟨g,c,E,?_,hb,J,by omega,R,M,?_⟩⟩
  ·rw [A];simp [sliced,Addr.add]
  ·rw [A,Nat.mul_one];rw [Nat.mul_one] at I;have:E.toList.take j=(E.toList.take l.length).take j:=by rw [take_take,Nat.min_eq_left O]
   rw [this,I];simp [a_N]
/-- Without the frame's end: a cut is a slice of its own length. -/
theorem b_H (p:Option Addr) (i j A:Nat):∃ q,sliced p i j A 1 = .slice q (j - i) (A - i):=by
 unfold sliced;by_cases c:A=i
 ·rw [if_pos c];exact ⟨_,rfl⟩
 ·rw [if_neg c];exact ⟨_,rfl⟩
theorem p_4 (p:Option Addr) (n A i:Nat) (h:i<=n) (W:World):Sem.run Tryz.prog (Instr.slice 22 (.slice p n A) (some (.int .i64 (i:Int))) none none) W = .ok (sliced p i n A 1) W:=by
 have E:∀ W,Sem.run Tryz.prog (sizeOf (Tryz.prog.elem 22)) W = .ok 1 W:=fun W=>by kernel_rfl
 have:=run_slice_l (P:=Tryz.prog) W 22 p n A (by kernel_rfl) .i64 (i:Int) (by omega) (by omega);rw [this,E];simp [Result.andThen]
theorem m_B (p:Option Addr) (n A j:Nat) (H:j<=A) (W:World):Sem.run Tryz.prog (Instr.slice 22 (.slice p n A) none (some (.int .i64 (j:Int))) none) W = .ok (sliced p 0 j A 1) W:=by
 have E:∀ W,Sem.run Tryz.prog (sizeOf (Tryz.prog.elem 22)) W = .ok 1 W:=fun W=>by kernel_rfl
 have:=run_slice_h (P:=Tryz.prog) W 22 p n A (by kernel_rfl) .i64 (j:Int) (by omega) (by omega);rw [this,E];simp [Result.andThen]
theorem j_d (p:Option Addr) (n A i j:Nat) (h:i<=j) (H:j<=A) (W:World):Sem.run Tryz.prog (Instr.slice 26 (.slice p n A) (some (.int .i64 (i:Int))) (some (.int .i64 (j:Int))) none) W = .ok (sliced p i j A 1) W:=by
 have E:∀ W,Sem.run Tryz.prog (sizeOf (Tryz.prog.elem 26)) W = .ok 1 W:=fun W=>by kernel_rfl
 have:=run_slice_lh (P:=Tryz.prog) W 26 p n A (by kernel_rfl) .i64 .i64 (i:Int) (j:Int) (by omega) (by omega) (by omega);rw [this,E];simp [Result.andThen]
theorem s_n (p:Option Addr) (n A i:Nat) (h:i<=n) (W:World):Sem.run Tryz.prog (Instr.slice 26 (.slice p n A) (some (.int .i64 (i:Int))) none none) W = .ok (sliced p i n A 1) W:=by
 have E:∀ W,Sem.run Tryz.prog (sizeOf (Tryz.prog.elem 26)) W = .ok 1 W:=fun W=>by kernel_rfl
 have:=run_slice_l (P:=Tryz.prog) W 26 p n A (by kernel_rfl) .i64 (i:Int) (by omega) (by omega);rw [this,E];simp [Result.andThen]
theorem s_o (p:Option Addr) (n A j:Nat) (H:j<=A) (W:World):Sem.run Tryz.prog (Instr.slice 26 (.slice p n A) none (some (.int .i64 (j:Int))) none) W = .ok (sliced p 0 j A 1) W:=by
 have E:∀ W,Sem.run Tryz.prog (sizeOf (Tryz.prog.elem 26)) W = .ok 1 W:=fun W=>by kernel_rfl
 have:=run_slice_h (P:=Tryz.prog) W 26 p n A (by kernel_rfl) .i64 (j:Int) (by omega) (by omega);rw [this,E];simp [Result.andThen]
end Go.Proofs.YtkfpainpomobfaaGreatDoor.Wd
