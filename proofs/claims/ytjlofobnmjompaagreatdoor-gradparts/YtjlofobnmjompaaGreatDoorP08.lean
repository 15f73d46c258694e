/- What the functions of package wide hand  -/
import Derived.Test.YtjlofobnmjompaaGreatDoorP07
set_option linter.unusedVariables false
set_option linter.unusedSimpArgs false
set_option maxHeartbeats 16000000
set_option maxRecDepth 16000
namespace Go.Proofs.YtjlofobnmjompaaGreatDoor.Wd
open Go.RowKit Fx
attribute [local go_sem] h_I h_J
def nrI (q r d:Int):Int:=if d < 2*r∨(2*r=d/\q % 2=1) then q+1 else q
theorem n_9 (q:Int) (h:0<=q/\q<=18446744073709551615):wd q = .agg #[.int .i64 0,.int .u64 q]:=(k_y (by omega) (by omega)).symm
theorem nearest_any (q r d:Int) (hq:0<=q/\q<=18446744073709551615) (hr:0<=r/\r < d) (hd:d<=9223372036854775808) (w:World):
  Calls Tryz.prog 183 #[.int .u64 q,.int .u64 r,.int .u64 d] w fun e w'=>e = .returned (wd (nrI q r d))/\Below w.heap.size w w':=by
 have ah:InW q:=by unfold InW;omega
 have ab:InW (q+1):=by unfold InW;omega
 obtain ⟨R,U,eu,u1,u2,u3,u4,Hu⟩:=words ab;have eq:=n_9 q hq
 have s4:∀ W:World,Calls Tryz.prog 31 #[.int .i64 1] W fun e w'=>e = .returned (.agg #[.int .i64 0,.int .u64 1])/\Below W.heap.size W w':=by
  intro W;have:=of_any 1 (by unfold InR;omega) W;rw [j_E] at this;exact this
 have s5:∀ W:World,Calls Tryz.prog 17 #[.agg #[.int .i64 0,.int .u64 q],.agg #[.int .i64 0,.int .u64 1]] W fun e w'=>e = .returned (.agg #[.int .i64 R,.int .u64 U])/\Below W.heap.size W w':=by
  intro W;have:=add_any q 1 ah (by unfold InW;omega) W;rw [n_Z ab,eu,eq,j_E] at this;exact this
 have O:Hid (¬ (d < 2*r∨(2*r=d/\q % 2=1))->wd (nrI q r d) = .agg #[.int .i64 0,.int .u64 q]):=by
  intro h;unfold nrI;rw [if_neg h,eq]
 have ag:Hid ((d < 2*r∨(2*r=d/\q % 2=1))->wd (nrI q r d) = .agg #[.int .i64 R,.int .u64 U]):=by
  intro h;unfold nrI;rw [if_pos h,eu]
 clear eq eu Hu ah ab;by_cases c1:d < 2*r
 ·have E:Hid (wd (nrI q r d) = .agg #[.int .i64 R,.int .u64 U]):=ag.out (by omega);go_enter Tryz.func183,Tryz.ntmps183;go_wp2_with fail
  go_region_with (first|(go_at_call 31;refine (s4 _).mono ?_;rintro e' I ⟨rfl,D⟩;have av:Below w.heap.size w I:=Below.trans (by go_grown) (D.mono (by first|omega|(simp;try omega)));have V:=D.size;(try simp at V);have ai:w.heap.size < I.heap.size:=(by omega);have aq:I.cell? ⟨w.heap.size,0,none⟩=some (.int .i64 0):=keep D (by first|assumption|simp [go_sem, *]);have aj:I.frozen? ⟨w.heap.size,0,none⟩=false:=a_W D (v:=.int .i64 0) (by first|assumption|simp [go_sem, *]) (by first|assumption|simp [go_sem, *]);have ar:I.cell? ⟨w.heap.size,1,none⟩=some (.int .u64 0):=keep D (by first|assumption|simp [go_sem, *]);have ap:I.frozen? ⟨w.heap.size,1,none⟩=false:=a_W D (v:=.int .u64 0) (by first|assumption|simp [go_sem, *]) (by first|assumption|simp [go_sem, *]);have af:(w.heap.size+1) < I.heap.size:=(by omega);have ac:I.cell? ⟨(w.heap.size+1),0,none⟩=some (.int .i64 0):=keep D (by first|assumption|simp [go_sem, *]);have am:I.frozen? ⟨(w.heap.size+1),0,none⟩=false:=a_W D (v:=.int .i64 0) (by first|assumption|simp [go_sem, *]) (by first|assumption|simp [go_sem, *]);have ak:I.cell? ⟨(w.heap.size+1),1,none⟩=some (.int .u64 q):=keep D (by first|assumption|simp [go_sem, *]);have an:I.frozen? ⟨(w.heap.size+1),1,none⟩=false:=a_W D (v:=.int .u64 q) (by first|assumption|simp [go_sem, *]) (by first|assumption|simp [go_sem, *]);clear D)|(go_at_call 17;refine (s5 _).mono ?_;rintro e' J ⟨rfl,H⟩;have au:Below w.heap.size w J:=Below.trans (by go_grown) (H.mono (by first|omega|(simp;try omega)));have aa:=H.size;(try simp at aa);have ad:w.heap.size < J.heap.size:=(by omega);have M:J.cell? ⟨w.heap.size,0,none⟩=some (.int .i64 0):=keep H (by first|assumption|simp [go_sem, *]);have ao:J.frozen? ⟨w.heap.size,0,none⟩=false:=a_W H (v:=.int .i64 0) (by first|assumption|simp [go_sem, *]) (by first|assumption|simp [go_sem, *]);have L:J.cell? ⟨w.heap.size,1,none⟩=some (.int .u64 0):=keep H (by first|assumption|simp [go_sem, *]);have ae:J.frozen? ⟨w.heap.size,1,none⟩=false:=a_W H (v:=.int .u64 0) (by first|assumption|simp [go_sem, *]) (by first|assumption|simp [go_sem, *]);clear H))
  all_goals
   go_wp2;obtain ⟨f0,f1⟩:=two J w.heap.size (.int .i64 R) (.int .u64 U) M L;exact bodyPost_ret (v:=.agg #[.int .i64 R,.int .u64 U]) (by simp [results,Tryz.results183,go_sem,f0,f1]) rfl ⟨by rw [E.out],by go_grown⟩
 ·by_cases c2:2*r=d
  ·by_cases c3:q % 2=1
   ·have E:Hid (wd (nrI q r d) = .agg #[.int .i64 R,.int .u64 U]):=ag.out (by omega);go_enter Tryz.func183,Tryz.ntmps183;go_wp2_with fail
    go_region_with (first|(go_at_call 31;refine (s4 _).mono ?_;rintro e' I ⟨rfl,D⟩;have av:Below w.heap.size w I:=Below.trans (by go_grown) (D.mono (by first|omega|(simp;try omega)));have V:=D.size;(try simp at V);have ai:w.heap.size < I.heap.size:=(by omega);have aq:I.cell? ⟨w.heap.size,0,none⟩=some (.int .i64 0):=keep D (by first|assumption|simp [go_sem, *]);have aj:I.frozen? ⟨w.heap.size,0,none⟩=false:=a_W D (v:=.int .i64 0) (by first|assumption|simp [go_sem, *]) (by first|assumption|simp [go_sem, *]);have ar:I.cell? ⟨w.heap.size,1,none⟩=some (.int .u64 0):=keep D (by first|assumption|simp [go_sem, *]);have ap:I.frozen? ⟨w.heap.size,1,none⟩=false:=a_W D (v:=.int .u64 0) (by first|assumption|simp [go_sem, *]) (by first|assumption|simp [go_sem, *]);have af:(w.heap.size+1) < I.heap.size:=(by omega);have ac:I.cell? ⟨(w.heap.size+1),0,none⟩=some (.int .i64 0):=keep D (by first|assumption|simp [go_sem, *]);have am:I.frozen? ⟨(w.heap.size+1),0,none⟩=false:=a_W D (v:=.int .i64 0) (by first|assumption|simp [go_sem, *]) (by first|assumption|simp [go_sem, *]);have ak:I.cell? ⟨(w.heap.size+1),1,none⟩=some (.int .u64 q):=keep D (by first|assumption|simp [go_sem, *]);have an:I.frozen? ⟨(w.heap.size+1),1,none⟩=false:=a_W D (v:=.int .u64 q) (by first|assumption|simp [go_sem, *]) (by first|assumption|simp [go_sem, *]);clear D)|(go_at_call 17;refine (s5 _).mono ?_;rintro e' J ⟨rfl,H⟩;have au:Below w.heap.size w J:=Below.trans (by go_grown) (H.mono (by first|omega|(simp;try omega)));have aa:=H.size;(try simp at aa);have ad:w.heap.size < J.heap.size:=(by omega);have M:J.cell? ⟨w.heap.size,0,none⟩=some (.int .i64 0):=keep H (by first|assumption|simp [go_sem, *]);have ao:J.frozen? ⟨w.heap.size,0,none⟩=false:=a_W H (v:=.int .i64 0) (by first|assumption|simp [go_sem, *]) (by first|assumption|simp [go_sem, *]);have L:J.cell? ⟨w.heap.size,1,none⟩=some (.int .u64 0):=keep H (by first|assumption|simp [go_sem, *]);have ae:J.frozen? ⟨w.heap.size,1,none⟩=false:=a_W H (v:=.int .u64 0) (by first|assumption|simp [go_sem, *]) (by first|assumption|simp [go_sem, *]);clear H))
    all_goals
     go_wp2;obtain ⟨f0,f1⟩:=two J w.heap.size (.int .i64 R) (.int .u64 U) M L;exact bodyPost_ret (v:=.agg #[.int .i64 R,.int .u64 U]) (by simp [results,Tryz.results183,go_sem,f0,f1]) rfl ⟨by rw [E.out],by go_grown⟩
   ·have ax:(q % 2==1)=false:=by simpa using c3
    have E:Hid (wd (nrI q r d) = .agg #[.int .i64 0,.int .u64 q]):=O.out (by omega);go_enter Tryz.func183,Tryz.ntmps183;go_wp2;exact bodyPost_ret (v:=.agg #[.int .i64 0,.int .u64 q]) (by simp [results,Tryz.results183,go_sem]) rfl ⟨by rw [E.out],by go_grown⟩
  ·have aw:(2*r==d)=false:=by simpa using c2
   have E:Hid (wd (nrI q r d) = .agg #[.int .i64 0,.int .u64 q]):=O.out (by omega);go_enter Tryz.func183,Tryz.ntmps183;go_wp2;exact bodyPost_ret (v:=.agg #[.int .i64 0,.int .u64 q]) (by simp [results,Tryz.results183,go_sem]) rfl ⟨by rw [E.out],by go_grown⟩
end Go.Proofs.YtjlofobnmjompaaGreatDoor.Wd
namespace Go.Proofs.YtjlofobnmjompaaGreatDoor.Wd
open Go.RowKit Fx
attribute [local go_sem] h_I h_J
/-- A number by another, rounded and held; by 0 its bound. -/
def ovI (a n:Int):Int:=if n=0 then f_W a else hold (sg (Fx.differ a n) (rq a.natAbs n.natAbs))
theorem k_C (a:Int):f_W (hold a)=f_W a:=by
 unfold f_W hold
 split <;> split <;> (try split) <;> (try split) <;> (try split) <;> (try split) <;> omega
theorem r_B (m d:Nat) (D:0 < d):nrI ((m:Int) / d) ((m:Int) % d) d=((rq m d:Nat):Int):=by
 rw [<- i_q];rfl
theorem rq_le (m d:Nat) (D:0 < d) (h:m / 18446744073709551616 < d):rq m d<=18446744073709551616:=by
 have:m / d < 18446744073709551616:=by
  rw [Nat.div_lt_iff_lt_mul D];have:=Nat.div_lt_iff_lt_mul (x:=m) (y:=d) (show 0 < 18446744073709551616 by decide);omega
 unfold rq
 split <;> omega
theorem s_Q (m d:Nat) (D:0 < d) (h:d<=m / 18446744073709551616):18446744073709551616<=rq m d:=by
 have:18446744073709551616<=m / d:=by
  rw [Nat.le_div_iff_mul_le D];omega
 unfold rq
 split <;> omega
theorem r_C (a n:Int) (D:n≠0) (h:n.natAbs<=a.natAbs / 18446744073709551616):ovI a n=lim (Fx.differ a n):=by
 have:=s_Q a.natAbs n.natAbs (by omega) h;unfold ovI;rw [if_neg D];cases Fx.differ a n
 ·exact f_p (by unfold sg;simp;omega)
 ·exact f_q (by unfold sg;simp;omega)
theorem f_x {B:Nat} {a w:World} (h:Below B a w) (n:Nat):Below B a (w.drewN n):=⟨h.os,h.tape,h.output,h.size,h.block⟩
theorem i_w (a:Int) (O:InW a) (w:World):
  Calls Tryz.prog 154 #[wd a,.int .i64 0] w fun e I=>e = .returned (.int .i64 (ovI a 0))/\Below w.heap.size w I:=by
 have R:InR (hold a):=hold_rng a
 have E:Hid (n_t (hold a) 0=ovI a 0):=by
  show (if (0:Int)=0 then f_W (hold a) else _)=(if (0:Int)=0 then f_W a else _);rw [if_pos rfl,if_pos rfl,k_C]
 obtain ⟨V,al,M,a1,a2,a3,a4,Ha⟩:=words O;obtain ⟨y,D⟩:∃ y,hold a=y:=⟨_,rfl⟩
 have s1:∀ W:World,Calls Tryz.prog 152 #[.agg #[.int .i64 V,.int .u64 al]] W fun e I=>e = .returned (.int .i64 y)/\Below W.heap.size W I:=by
  intro W;have:=e_v a O W;rw [M,D] at this;exact this
 have s2:∀ W:World,Calls Tryz.prog 179 #[.int .i64 y,.int .i64 0] W fun e I=>e = .returned (.int .i64 (ovI a 0))/\∃ n,I=W.drewN n:=by
  intro W;have:=i_v y 0 (D ▸ R) (by unfold InR;omega) W;rw [<- D,E.out,D] at this;exact this
 rw [M];clear M E D R;go_enter Tryz.func154,Tryz.ntmps154;go_wp2_with fail
 refine (s1 _).mono ?_;rintro U w1 ⟨rfl,H⟩;have J:Below w.heap.size w w1:=Below.trans (by go_grown) (H.mono (by first|omega|(simp;try omega)));have L:=H.size
 (try simp at L)
 go_wp2_with fail
 refine (s2 _).mono ?_;rintro U w2 ⟨rfl,n,rfl⟩;go_wp2;go_ret;exact ⟨rfl,f_x J n⟩
theorem l_V (a n:Int) (ha:InW a) (hn:InR n) (h0:n≠0) (w:World):
  Calls Tryz.prog 154 #[wd a,.int .i64 n] w fun e J=>e = .returned (.int .i64 (ovI a n))/\Below w.heap.size w J:=by
 have aa:InW (if decide (a < 0) then wr (-a) else a):=by split;exact c_9 _;exact ha
 obtain ⟨U,al,ea,a1,a2,a3,a4,Ha⟩:=words ha;obtain ⟨oh,L,eo,o1,o2,o3,o4,Ho⟩:=words aa;obtain ⟨D,eD⟩:∃ D:Int,(n.natAbs:Int)=D:=⟨_,rfl⟩
 obtain ⟨I,ei⟩:∃ I:Int,IntKind.u64.wrap oh=I:=⟨_,rfl⟩
 have hD:1<=D/\D<=9223372036854775808:=by unfold InR at hn;omega
 have hm:(a.natAbs:Int)=I*18446744073709551616+L:=by
  have h1:=Ho.out;rw [IntKind.wrap_u64] at ei;unfold InW at ha;by_cases c:a < 0
  ·simp only [c,decide_true,if_true] at h1;unfold wr at h1;omega
  ·simp only [c,decide_false,Bool.false_eq_true,if_false] at h1;omega
 have ax:0<=I/\I<=9223372036854775808:=by rw [IntKind.wrap_u64] at ei;unfold InW at ha;omega
 have sa:decide (U < 0)=decide (a < 0):=by
  have h1:=Ha.out;rw [decide_eq_decide];omega
 obtain ⟨b,eb⟩:∃ b,Fx.differ a n=b:=⟨_,rfl⟩
 have aw:(!(decide (U < 0)==decide (n < 0)))=b:=by rw [sa];exact eb
 have s1:∀ W:World,Calls Tryz.prog 180 #[.bool (decide (U < 0)),.agg #[.int .i64 U,.int .u64 al]] W fun e J=>e = .returned (.agg #[.int .i64 oh,.int .u64 L])/\Below W.heap.size W J:=by
  intro W;have:=e_u (decide (a < 0)) a ha W;rw [eo,ea,<- sa] at this;exact this
 have s2:∀ W:World,Calls Tryz.prog 181 #[.int .i64 n] W fun e J=>e = .returned (.int .u64 D)/\J=W:=fun W=>f_v n D hn eD W;have ay:(n==0)=false:=by simpa using h0
 by_cases hc:D<=I
 ·have E:Hid (ovI a n=lim b):=by rw [<- eb];exact r_C a n h0 (by omega)
  rw [ea];clear ea eo eb eD hm Ho Ha aa sa;unfold InR at hn;go_enter Tryz.func154,Tryz.ntmps154;go_wp2_with fail
  refine (s1 _).mono ?_;rintro V M ⟨rfl,H⟩;have aq:Below w.heap.size w M:=Below.trans (by go_grown) (H.mono (by first|omega|(simp;try omega)));have ad:=H.size
  (try simp at ad)
  have ag:w.heap.size < M.heap.size:=(by omega)
  have ak:M.cell? ⟨w.heap.size,0,none⟩=some (.int .i64 U):=keep H (by first|assumption|simp [go_sem, *]);have ao:M.frozen? ⟨w.heap.size,0,none⟩=false:=a_W H (v:=.int .i64 U) (by first|assumption|simp [go_sem, *]) (by first|assumption|simp [go_sem, *]);have ai:M.cell? ⟨w.heap.size,1,none⟩=some (.int .u64 al):=keep H (by first|assumption|simp [go_sem, *]);have am:M.frozen? ⟨w.heap.size,1,none⟩=false:=a_W H (v:=.int .u64 al) (by first|assumption|simp [go_sem, *]) (by first|assumption|simp [go_sem, *]);clear H;go_wp2_with fail
  refine (s2 _).mono ?_;rintro V w2 ⟨rfl,rfl⟩;go_wp2_with fail
  refine (bound_any b _).mono ?_;rintro V w2 ⟨rfl,rfl⟩;go_wp2;go_ret;exact ⟨ret_int E.out.symm,by go_grown⟩
 ·have hx:=rq_le a.natAbs n.natAbs (by omega) (by omega)
  have ap:0<=(I*18446744073709551616+L) / D/\(I*18446744073709551616+L) / D<=18446744073709551615:=by
   refine ⟨Int.ediv_nonneg (by omega) (by omega),?_⟩;have:(I*18446744073709551616+L) / D < 18446744073709551616:=Int.ediv_lt_of_lt_mul (by omega) (by omega);omega
  have aj:0<=(I*18446744073709551616+L) % D/\(I*18446744073709551616+L) % D < D:=⟨Int.emod_nonneg _ (by omega),Int.emod_lt_of_pos _ (by omega)⟩
  have R:nrI ((I*18446744073709551616+L) / D) ((I*18446744073709551616+L) % D) D=((rq a.natAbs n.natAbs:Nat):Int):=by
   rw [<- hm,<- eD];exact r_B a.natAbs n.natAbs (by omega)
  obtain ⟨q,eq⟩:∃ q,(I*18446744073709551616+L) / D=q:=⟨_,rfl⟩
  obtain ⟨r,er⟩:∃ r,(I*18446744073709551616+L) % D=r:=⟨_,rfl⟩
  obtain ⟨x,ex⟩:∃ x:Int,((rq a.natAbs n.natAbs:Nat):Int)=x:=⟨_,rfl⟩
  rw [eq] at ap R;rw [er] at aj R;have av:0<=x/\x<=18446744073709551616:=by omega
  have O:InW x:=by unfold InW;omega
  have ab:InW (if b then wr (-x) else x):=by split;exact c_9 _;exact O
  have hy:hold (if b then wr (-x) else x)=ovI a n:=by
   unfold ovI;rw [if_neg h0,eb]
   congr 1
   unfold sg;cases b
   ·simp;omega
   ·simp;rw [n_Z (by unfold InW;omega)];omega
  obtain ⟨xh,xl,ae,x1,x2,x3,x4,Hx⟩:=words O;obtain ⟨gh,gl,ac,g1,g2,g3,g4,Hg⟩:=words ab;obtain ⟨y,ey⟩:∃ y,ovI a n=y:=⟨_,rfl⟩
  have s3:∀ W:World,Calls Tryz.prog 182 #[.int .u64 I,.int .u64 L,.int .u64 D] W fun e J=>e = .returned (.tuple #[.int .u64 q,.int .u64 r])/\∃ n,J=W.drewN n:=by
   intro W;have:=h_M I L D (by omega) (by omega) (by omega) (by omega) W;rw [eq,er] at this;exact this
  have s4:∀ W:World,Calls Tryz.prog 183 #[.int .u64 q,.int .u64 r,.int .u64 D] W fun e J=>e = .returned (.agg #[.int .i64 xh,.int .u64 xl])/\Below W.heap.size W J:=by
   intro W;have:=nearest_any q r D ap aj (by omega) W;rw [R,ex,ae] at this;exact this
  have s5:∀ W:World,Calls Tryz.prog 180 #[.bool b,.agg #[.int .i64 xh,.int .u64 xl]] W fun e J=>e = .returned (.agg #[.int .i64 gh,.int .u64 gl])/\Below W.heap.size W J:=by
   intro W;have:=e_u b x O W;rw [ac,ae] at this;exact this
  have s6:∀ W:World,Calls Tryz.prog 152 #[.agg #[.int .i64 gh,.int .u64 gl]] W fun e J=>e = .returned (.int .i64 y)/\Below W.heap.size W J:=by
   intro W;have:=e_v _ ab W;rw [hy,ey,ac] at this;exact this
  rw [ea,ey];clear ea eo eb eD hm Ho Ha aa ey hy ab O hx R eq er ex ae ac Hx Hg sa;unfold InR at hn;go_enter Tryz.func154,Tryz.ntmps154;go_wp2_with fail
  refine (s1 _).mono ?_;rintro V M ⟨rfl,H⟩;have aq:Below w.heap.size w M:=Below.trans (by go_grown) (H.mono (by first|omega|(simp;try omega)));have ad:=H.size
  (try simp at ad)
  have ag:w.heap.size < M.heap.size:=(by omega)
  have ak:M.cell? ⟨w.heap.size,0,none⟩=some (.int .i64 U):=keep H (by first|assumption|simp [go_sem, *]);have ao:M.frozen? ⟨w.heap.size,0,none⟩=false:=a_W H (v:=.int .i64 U) (by first|assumption|simp [go_sem, *]) (by first|assumption|simp [go_sem, *]);have ai:M.cell? ⟨w.heap.size,1,none⟩=some (.int .u64 al):=keep H (by first|assumption|simp [go_sem, *]);have am:M.frozen? ⟨w.heap.size,1,none⟩=false:=a_W H (v:=.int .u64 al) (by first|assumption|simp [go_sem, *]) (by first|assumption|simp [go_sem, *]);clear H;go_wp2_with fail
  refine (s2 _).mono ?_;rintro V w2 ⟨rfl,rfl⟩;go_wp2_with fail
  refine (s3 _).mono ?_;rintro V w2 ⟨rfl,k,rfl⟩;go_wp2_with fail
  refine (s4 _).mono ?_;rintro V w3 ⟨rfl,af⟩;have an:Below w.heap.size w w3:=Below.trans (f_x (by go_grown) _) (af.mono (by simp;omega));clear af;go_wp2_with fail
  refine (s5 _).mono ?_;rintro V w4 ⟨rfl,au⟩;go_wp2_with fail
  refine (s6 _).mono ?_;rintro V w5 ⟨rfl,ar⟩;go_wp2;go_ret;have c4:=an.trans (au.mono an.size);exact ⟨rfl,c4.trans (ar.mono c4.size)⟩
theorem over_any (a n:Int) (D:InW a) (E:InR n) (w:World):
  Calls Tryz.prog 154 #[wd a,.int .i64 n] w fun e H=>e = .returned (.int .i64 (ovI a n))/\Below w.heap.size w H:=by
 by_cases h:n=0
 ·subst h;exact i_w a D w
 ·exact l_V a n D E h w
end Go.Proofs.YtjlofobnmjompaaGreatDoor.Wd
