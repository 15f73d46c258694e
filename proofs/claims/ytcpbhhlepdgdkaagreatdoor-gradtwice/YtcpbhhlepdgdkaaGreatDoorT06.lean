/- What the functions of package wide hand  -/
import Derived.Test.YtcpbhhlepdgdkaaGreatDoorT05
set_option linter.unusedVariables false
set_option linter.unusedSimpArgs false
set_option maxHeartbeats 16000000
set_option maxRecDepth 16000
namespace Go.Proofs.YtcpbhhlepdgdkaaGreatDoor.Wd
open Go.RowKit Fx
attribute [local go_sem] h_T h_U
def nrI (q r d:Int):Int:=if d < 2*r∨(2*r=d/\q % 2=1) then q+1 else q
theorem o_h (q:Int) (h:0<=q/\q<=18446744073709551615):wd q = .agg #[.int .i64 0,.int .u64 q]:=(k_E (by omega) (by omega)).symm
theorem nearest_any (q r d:Int) (hq:0<=q/\q<=18446744073709551615) (hr:0<=r/\r < d) (hd:d<=9223372036854775808) (w:World):
  Calls Tryz.prog 172 #[.int .u64 q,.int .u64 r,.int .u64 d] w fun e w'=>e = .returned (wd (nrI q r d))/\Below w.heap.size w w':=by
 have am:InW q:=by unfold InW;omega
 have ab:InW (q+1):=by unfold InW;omega
 obtain ⟨U,O,eu,u1,u2,u3,u4,Hu⟩:=words ab;have eq:=o_h q hq
 have s4:∀ W:World,Calls Tryz.prog 19 #[.int .i64 1] W fun e w'=>e = .returned (.agg #[.int .i64 0,.int .u64 1])/\Below W.heap.size W w':=by
  intro W;have:=of_any 1 (by unfold InR;omega) W;rw [j_N] at this;exact this
 have s5:∀ W:World,Calls Tryz.prog 11 #[.agg #[.int .i64 0,.int .u64 q],.agg #[.int .i64 0,.int .u64 1]] W fun e w'=>e = .returned (.agg #[.int .i64 U,.int .u64 O])/\Below W.heap.size W w':=by
  intro W;have:=add_any q 1 am (by unfold InW;omega) W;rw [n_7 ab,eu,eq,j_N] at this;exact this
 have R:Hid (¬ (d < 2*r∨(2*r=d/\q % 2=1))->wd (nrI q r d) = .agg #[.int .i64 0,.int .u64 q]):=by
  intro h;unfold nrI;rw [if_neg h,eq]
 have ag:Hid ((d < 2*r∨(2*r=d/\q % 2=1))->wd (nrI q r d) = .agg #[.int .i64 U,.int .u64 O]):=by
  intro h;unfold nrI;rw [if_pos h,eu]
 clear eq eu Hu am ab;by_cases c1:d < 2*r
 ·have E:Hid (wd (nrI q r d) = .agg #[.int .i64 U,.int .u64 O]):=ag.out (by omega);go_enter Tryz.func172,Tryz.ntmps172;go_wp2_with fail
  go_region_with (first|(go_at_call 19;refine (s4 _).mono ?_;rintro e' I ⟨rfl,D⟩;have au:Below w.heap.size w I:=Below.trans (by go_grown) (D.mono (by first|omega|(simp;try omega)));have aa:=D.size;(try simp at aa);have aq:w.heap.size < I.heap.size:=(by omega);have af:I.cell? ⟨w.heap.size,0,none⟩=some (.int .i64 0):=keep D (by first|assumption|simp [go_sem, *]);have aj:I.frozen? ⟨w.heap.size,0,none⟩=false:=a_U D (v:=.int .i64 0) (by first|assumption|simp [go_sem, *]) (by first|assumption|simp [go_sem, *]);have ap:I.cell? ⟨w.heap.size,1,none⟩=some (.int .u64 0):=keep D (by first|assumption|simp [go_sem, *]);have ad:I.frozen? ⟨w.heap.size,1,none⟩=false:=a_U D (v:=.int .u64 0) (by first|assumption|simp [go_sem, *]) (by first|assumption|simp [go_sem, *]);have ai:(w.heap.size+1) < I.heap.size:=(by omega);have ah:I.cell? ⟨(w.heap.size+1),0,none⟩=some (.int .i64 0):=keep D (by first|assumption|simp [go_sem, *]);have ac:I.frozen? ⟨(w.heap.size+1),0,none⟩=false:=a_U D (v:=.int .i64 0) (by first|assumption|simp [go_sem, *]) (by first|assumption|simp [go_sem, *]);have ae:I.cell? ⟨(w.heap.size+1),1,none⟩=some (.int .u64 q):=keep D (by first|assumption|simp [go_sem, *]);have ar:I.frozen? ⟨(w.heap.size+1),1,none⟩=false:=a_U D (v:=.int .u64 q) (by first|assumption|simp [go_sem, *]) (by first|assumption|simp [go_sem, *]);clear D)|(go_at_call 11;refine (s5 _).mono ?_;rintro e' J ⟨rfl,H⟩;have av:Below w.heap.size w J:=Below.trans (by go_grown) (H.mono (by first|omega|(simp;try omega)));have V:=H.size;(try simp at V);have ak:w.heap.size < J.heap.size:=(by omega);have L:J.cell? ⟨w.heap.size,0,none⟩=some (.int .i64 0):=keep H (by first|assumption|simp [go_sem, *]);have an:J.frozen? ⟨w.heap.size,0,none⟩=false:=a_U H (v:=.int .i64 0) (by first|assumption|simp [go_sem, *]) (by first|assumption|simp [go_sem, *]);have M:J.cell? ⟨w.heap.size,1,none⟩=some (.int .u64 0):=keep H (by first|assumption|simp [go_sem, *]);have ao:J.frozen? ⟨w.heap.size,1,none⟩=false:=a_U H (v:=.int .u64 0) (by first|assumption|simp [go_sem, *]) (by first|assumption|simp [go_sem, *]);clear H))
  all_goals
   go_wp2;obtain ⟨f0,f1⟩:=two J w.heap.size (.int .i64 U) (.int .u64 O) L M;exact bodyPost_ret (v:=.agg #[.int .i64 U,.int .u64 O]) (by simp [results,Tryz.results172,go_sem,f0,f1]) rfl ⟨by rw [E.out],by go_grown⟩
 ·by_cases c2:2*r=d
  ·by_cases c3:q % 2=1
   ·have E:Hid (wd (nrI q r d) = .agg #[.int .i64 U,.int .u64 O]):=ag.out (by omega);go_enter Tryz.func172,Tryz.ntmps172;go_wp2_with fail
    go_region_with (first|(go_at_call 19;refine (s4 _).mono ?_;rintro e' I ⟨rfl,D⟩;have au:Below w.heap.size w I:=Below.trans (by go_grown) (D.mono (by first|omega|(simp;try omega)));have aa:=D.size;(try simp at aa);have aq:w.heap.size < I.heap.size:=(by omega);have af:I.cell? ⟨w.heap.size,0,none⟩=some (.int .i64 0):=keep D (by first|assumption|simp [go_sem, *]);have aj:I.frozen? ⟨w.heap.size,0,none⟩=false:=a_U D (v:=.int .i64 0) (by first|assumption|simp [go_sem, *]) (by first|assumption|simp [go_sem, *]);have ap:I.cell? ⟨w.heap.size,1,none⟩=some (.int .u64 0):=keep D (by first|assumption|simp [go_sem, *]);have ad:I.frozen? ⟨w.heap.size,1,none⟩=false:=a_U D (v:=.int .u64 0) (by first|assumption|simp [go_sem, *]) (by first|assumption|simp [go_sem, *]);have ai:(w.heap.size+1) < I.heap.size:=(by omega);have ah:I.cell? ⟨(w.heap.size+1),0,none⟩=some (.int .i64 0):=keep D (by first|assumption|simp [go_sem, *]);have ac:I.frozen? ⟨(w.heap.size+1),0,none⟩=false:=a_U D (v:=.int .i64 0) (by first|assumption|simp [go_sem, *]) (by first|assumption|simp [go_sem, *]);have ae:I.cell? ⟨(w.heap.size+1),1,none⟩=some (.int .u64 q):=keep D (by first|assumption|simp [go_sem, *]);have ar:I.frozen? ⟨(w.heap.size+1),1,none⟩=false:=a_U D (v:=.int .u64 q) (by first|assumption|simp [go_sem, *]) (by first|assumption|simp [go_sem, *]);clear D)|(go_at_call 11;refine (s5 _).mono ?_;rintro e' J ⟨rfl,H⟩;have av:Below w.heap.size w J:=Below.trans (by go_grown) (H.mono (by first|omega|(simp;try omega)));have V:=H.size;(try simp at V);have ak:w.heap.size < J.heap.size:=(by omega);have L:J.cell? ⟨w.heap.size,0,none⟩=some (.int .i64 0):=keep H (by first|assumption|simp [go_sem, *]);have an:J.frozen? ⟨w.heap.size,0,none⟩=false:=a_U H (v:=.int .i64 0) (by first|assumption|simp [go_sem, *]) (by first|assumption|simp [go_sem, *]);have M:J.cell? ⟨w.heap.size,1,none⟩=some (.int .u64 0):=keep H (by first|assumption|simp [go_sem, *]);have ao:J.frozen? ⟨w.heap.size,1,none⟩=false:=a_U H (v:=.int .u64 0) (by first|assumption|simp [go_sem, *]) (by first|assumption|simp [go_sem, *]);clear H))
    all_goals
     go_wp2;obtain ⟨f0,f1⟩:=two J w.heap.size (.int .i64 U) (.int .u64 O) L M;exact bodyPost_ret (v:=.agg #[.int .i64 U,.int .u64 O]) (by simp [results,Tryz.results172,go_sem,f0,f1]) rfl ⟨by rw [E.out],by go_grown⟩
   ·have ax:(q % 2==1)=false:=by simpa using c3
    have E:Hid (wd (nrI q r d) = .agg #[.int .i64 0,.int .u64 q]):=R.out (by omega);go_enter Tryz.func172,Tryz.ntmps172;go_wp2;exact bodyPost_ret (v:=.agg #[.int .i64 0,.int .u64 q]) (by simp [results,Tryz.results172,go_sem]) rfl ⟨by rw [E.out],by go_grown⟩
  ·have aw:(2*r==d)=false:=by simpa using c2
   have E:Hid (wd (nrI q r d) = .agg #[.int .i64 0,.int .u64 q]):=R.out (by omega);go_enter Tryz.func172,Tryz.ntmps172;go_wp2;exact bodyPost_ret (v:=.agg #[.int .i64 0,.int .u64 q]) (by simp [results,Tryz.results172,go_sem]) rfl ⟨by rw [E.out],by go_grown⟩
end Go.Proofs.YtcpbhhlepdgdkaaGreatDoor.Wd
namespace Go.Proofs.YtcpbhhlepdgdkaaGreatDoor.Wd
open Go.RowKit Fx
attribute [local go_sem] h_T h_U
/-- A number by another, rounded and held; by 0 its bound. -/
def ovI (a n:Int):Int:=if n=0 then f_2 a else hold (sg (Fx.differ a n) (rq a.natAbs n.natAbs))
theorem k_I (a:Int):f_2 (hold a)=f_2 a:=by
 unfold f_2 hold
 split <;> split <;> (try split) <;> (try split) <;> (try split) <;> (try split) <;> omega
theorem r_Q (m d:Nat) (D:0 < d):nrI ((m:Int) / d) ((m:Int) % d) d=((rq m d:Nat):Int):=by
 rw [<- i_B];rfl
theorem rq_le (m d:Nat) (D:0 < d) (h:m / 18446744073709551616 < d):rq m d<=18446744073709551616:=by
 have:m / d < 18446744073709551616:=by
  rw [Nat.div_lt_iff_lt_mul D];have:=Nat.div_lt_iff_lt_mul (x:=m) (y:=d) (show 0 < 18446744073709551616 by decide);omega
 unfold rq
 split <;> omega
theorem s_6 (m d:Nat) (D:0 < d) (h:d<=m / 18446744073709551616):18446744073709551616<=rq m d:=by
 have:18446744073709551616<=m / d:=by
  rw [Nat.le_div_iff_mul_le D];omega
 unfold rq
 split <;> omega
theorem r_R (a n:Int) (D:n≠0) (h:n.natAbs<=a.natAbs / 18446744073709551616):ovI a n=lim (Fx.differ a n):=by
 have:=s_6 a.natAbs n.natAbs (by omega) h;unfold ovI;rw [if_neg D];cases Fx.differ a n
 ·exact f_u (by unfold sg;simp;omega)
 ·exact f_v (by unfold sg;simp;omega)
theorem f_C {B:Nat} {a w:World} (h:Below B a w) (n:Nat):Below B a (w.drewN n):=⟨h.os,h.tape,h.output,h.size,h.block⟩
theorem i_H (a:Int) (O:InW a) (w:World):
  Calls Tryz.prog 143 #[wd a,.int .i64 0] w fun e I=>e = .returned (.int .i64 (ovI a 0))/\Below w.heap.size w I:=by
 have R:InR (hold a):=hold_rng a
 have E:Hid (n_z (hold a) 0=ovI a 0):=by
  show (if (0:Int)=0 then f_2 (hold a) else _)=(if (0:Int)=0 then f_2 a else _);rw [if_pos rfl,if_pos rfl,k_I]
 obtain ⟨V,al,L,a1,a2,a3,a4,Ha⟩:=words O;obtain ⟨y,D⟩:∃ y,hold a=y:=⟨_,rfl⟩
 have s1:∀ W:World,Calls Tryz.prog 141 #[.agg #[.int .i64 V,.int .u64 al]] W fun e I=>e = .returned (.int .i64 y)/\Below W.heap.size W I:=by
  intro W;have:=e_y a O W;rw [L,D] at this;exact this
 have s2:∀ W:World,Calls Tryz.prog 168 #[.int .i64 y,.int .i64 0] W fun e I=>e = .returned (.int .i64 (ovI a 0))/\∃ n,I=W.drewN n:=by
  intro W;have:=i_G y 0 (D ▸ R) (by unfold InR;omega) W;rw [<- D,E.out,D] at this;exact this
 rw [L];clear L E D R;go_enter Tryz.func143,Tryz.ntmps143;go_wp2_with fail
 refine (s1 _).mono ?_;rintro e' U ⟨rfl,H⟩;have M:Below w.heap.size w U:=Below.trans (by go_grown) (H.mono (by first|omega|(simp;try omega)));have J:=H.size
 (try simp at J)
 go_wp2_with fail
 refine (s2 _).mono ?_;rintro e' w2 ⟨rfl,n,rfl⟩;go_wp2;go_ret;exact ⟨rfl,f_C M n⟩
theorem l_1 (a n:Int) (ha:InW a) (hn:InR n) (h0:n≠0) (w:World):
  Calls Tryz.prog 143 #[wd a,.int .i64 n] w fun e L=>e = .returned (.int .i64 (ovI a n))/\Below w.heap.size w L:=by
 have ac:InW (if decide (a < 0) then wr (-a) else a):=by split;exact d_d _;exact ha
 obtain ⟨U,al,ea,a1,a2,a3,a4,Ha⟩:=words ha;obtain ⟨oh,J,eo,o1,o2,o3,o4,Ho⟩:=words ac;obtain ⟨D,eD⟩:∃ D:Int,(n.natAbs:Int)=D:=⟨_,rfl⟩
 obtain ⟨I,ei⟩:∃ I:Int,IntKind.u64.wrap oh=I:=⟨_,rfl⟩
 have hD:1<=D/\D<=9223372036854775808:=by unfold InR at hn;omega
 have hm:(a.natAbs:Int)=I*18446744073709551616+J:=by
  have h1:=Ho.out;rw [IntKind.wrap_u64] at ei;unfold InW at ha;by_cases c:a < 0
  ·simp only [c,decide_true,if_true] at h1;unfold wr at h1;omega
  ·simp only [c,decide_false,Bool.false_eq_true,if_false] at h1;omega
 have ax:0<=I/\I<=9223372036854775808:=by rw [IntKind.wrap_u64] at ei;unfold InW at ha;omega
 have sa:decide (U < 0)=decide (a < 0):=by
  have h1:=Ha.out;rw [decide_eq_decide];omega
 obtain ⟨b,eb⟩:∃ b,Fx.differ a n=b:=⟨_,rfl⟩
 have av:(!(decide (U < 0)==decide (n < 0)))=b:=by rw [sa];exact eb
 have s1:∀ W:World,Calls Tryz.prog 169 #[.bool (decide (U < 0)),.agg #[.int .i64 U,.int .u64 al]] W fun e L=>e = .returned (.agg #[.int .i64 oh,.int .u64 J])/\Below W.heap.size W L:=by
  intro W;have:=e_x (decide (a < 0)) a ha W;rw [eo,ea,<- sa] at this;exact this
 have s2:∀ W:World,Calls Tryz.prog 170 #[.int .i64 n] W fun e L=>e = .returned (.int .u64 D)/\L=W:=fun W=>f_A n D hn eD W;have ay:(n==0)=false:=by simpa using h0
 by_cases hc:D<=I
 ·have E:Hid (ovI a n=lim b):=by rw [<- eb];exact r_R a n h0 (by omega)
  rw [ea];clear ea eo eb eD hm Ho Ha ac sa;unfold InR at hn;go_enter Tryz.func143,Tryz.ntmps143;go_wp2_with fail
  refine (s1 _).mono ?_;rintro V M ⟨rfl,H⟩;have au:Below w.heap.size w M:=Below.trans (by go_grown) (H.mono (by first|omega|(simp;try omega)));have ae:=H.size
  (try simp at ae)
  have ap:w.heap.size < M.heap.size:=(by omega)
  have ak:M.cell? ⟨w.heap.size,0,none⟩=some (.int .i64 U):=keep H (by first|assumption|simp [go_sem, *]);have am:M.frozen? ⟨w.heap.size,0,none⟩=false:=a_U H (v:=.int .i64 U) (by first|assumption|simp [go_sem, *]) (by first|assumption|simp [go_sem, *]);have af:M.cell? ⟨w.heap.size,1,none⟩=some (.int .u64 al):=keep H (by first|assumption|simp [go_sem, *]);have an:M.frozen? ⟨w.heap.size,1,none⟩=false:=a_U H (v:=.int .u64 al) (by first|assumption|simp [go_sem, *]) (by first|assumption|simp [go_sem, *]);clear H;go_wp2_with fail
  refine (s2 _).mono ?_;rintro V w2 ⟨rfl,rfl⟩;go_wp2_with fail
  refine (bound_any b _).mono ?_;rintro V w2 ⟨rfl,rfl⟩;go_wp2;go_ret;exact ⟨ret_int E.out.symm,by go_grown⟩
 ·have hx:=rq_le a.natAbs n.natAbs (by omega) (by omega)
  have ai:0<=(I*18446744073709551616+J) / D/\(I*18446744073709551616+J) / D<=18446744073709551615:=by
   refine ⟨Int.ediv_nonneg (by omega) (by omega),?_⟩;have:(I*18446744073709551616+J) / D < 18446744073709551616:=Int.ediv_lt_of_lt_mul (by omega) (by omega);omega
  have ag:0<=(I*18446744073709551616+J) % D/\(I*18446744073709551616+J) % D < D:=⟨Int.emod_nonneg _ (by omega),Int.emod_lt_of_pos _ (by omega)⟩
  have O:nrI ((I*18446744073709551616+J) / D) ((I*18446744073709551616+J) % D) D=((rq a.natAbs n.natAbs:Nat):Int):=by
   rw [<- hm,<- eD];exact r_Q a.natAbs n.natAbs (by omega)
  obtain ⟨q,eq⟩:∃ q,(I*18446744073709551616+J) / D=q:=⟨_,rfl⟩
  obtain ⟨r,er⟩:∃ r,(I*18446744073709551616+J) % D=r:=⟨_,rfl⟩
  obtain ⟨x,ex⟩:∃ x:Int,((rq a.natAbs n.natAbs:Nat):Int)=x:=⟨_,rfl⟩
  rw [eq] at ai O;rw [er] at ag O;have aw:0<=x/\x<=18446744073709551616:=by omega
  have R:InW x:=by unfold InW;omega
  have aa:InW (if b then wr (-x) else x):=by split;exact d_d _;exact R
  have hy:hold (if b then wr (-x) else x)=ovI a n:=by
   unfold ovI;rw [if_neg h0,eb]
   congr 1
   unfold sg;cases b
   ·simp;omega
   ·simp;rw [n_7 (by unfold InW;omega)];omega
  obtain ⟨xh,xl,ad,x1,x2,x3,x4,Hx⟩:=words R;obtain ⟨gh,gl,ab,g1,g2,g3,g4,Hg⟩:=words aa;obtain ⟨y,ey⟩:∃ y,ovI a n=y:=⟨_,rfl⟩
  have s3:∀ W:World,Calls Tryz.prog 171 #[.int .u64 I,.int .u64 J,.int .u64 D] W fun e L=>e = .returned (.tuple #[.int .u64 q,.int .u64 r])/\∃ n,L=W.drewN n:=by
   intro W;have:=h_X I J D (by omega) (by omega) (by omega) (by omega) W;rw [eq,er] at this;exact this
  have s4:∀ W:World,Calls Tryz.prog 172 #[.int .u64 q,.int .u64 r,.int .u64 D] W fun e L=>e = .returned (.agg #[.int .i64 xh,.int .u64 xl])/\Below W.heap.size W L:=by
   intro W;have:=nearest_any q r D ai ag (by omega) W;rw [O,ex,ad] at this;exact this
  have s5:∀ W:World,Calls Tryz.prog 169 #[.bool b,.agg #[.int .i64 xh,.int .u64 xl]] W fun e L=>e = .returned (.agg #[.int .i64 gh,.int .u64 gl])/\Below W.heap.size W L:=by
   intro W;have:=e_x b x R W;rw [ab,ad] at this;exact this
  have s6:∀ W:World,Calls Tryz.prog 141 #[.agg #[.int .i64 gh,.int .u64 gl]] W fun e L=>e = .returned (.int .i64 y)/\Below W.heap.size W L:=by
   intro W;have:=e_y _ aa W;rw [hy,ey,ab] at this;exact this
  rw [ea,ey];clear ea eo eb eD hm Ho Ha ac ey hy aa R hx O eq er ex ad ab Hx Hg sa;unfold InR at hn;go_enter Tryz.func143,Tryz.ntmps143;go_wp2_with fail
  refine (s1 _).mono ?_;rintro V M ⟨rfl,H⟩;have au:Below w.heap.size w M:=Below.trans (by go_grown) (H.mono (by first|omega|(simp;try omega)));have ae:=H.size
  (try simp at ae)
  have ap:w.heap.size < M.heap.size:=(by omega)
  have ak:M.cell? ⟨w.heap.size,0,none⟩=some (.int .i64 U):=keep H (by first|assumption|simp [go_sem, *]);have am:M.frozen? ⟨w.heap.size,0,none⟩=false:=a_U H (v:=.int .i64 U) (by first|assumption|simp [go_sem, *]) (by first|assumption|simp [go_sem, *]);have af:M.cell? ⟨w.heap.size,1,none⟩=some (.int .u64 al):=keep H (by first|assumption|simp [go_sem, *]);have an:M.frozen? ⟨w.heap.size,1,none⟩=false:=a_U H (v:=.int .u64 al) (by first|assumption|simp [go_sem, *]) (by first|assumption|simp [go_sem, *]);clear H;go_wp2_with fail
  refine (s2 _).mono ?_;rintro V w2 ⟨rfl,rfl⟩;go_wp2_with fail
  refine (s3 _).mono ?_;rintro V w2 ⟨rfl,k,rfl⟩;go_wp2_with fail
  refine (s4 _).mono ?_;rintro V w3 ⟨rfl,ao⟩;have aj:Below w.heap.size w w3:=Below.trans (f_C (by go_grown) _) (ao.mono (by simp;omega));clear ao;go_wp2_with fail
  refine (s5 _).mono ?_;rintro V w4 ⟨rfl,aq⟩;go_wp2_with fail
  refine (s6 _).mono ?_;rintro V w5 ⟨rfl,ar⟩;go_wp2;go_ret;have c4:=aj.trans (aq.mono aj.size);exact ⟨rfl,c4.trans (ar.mono c4.size)⟩
theorem over_any (a n:Int) (D:InW a) (H:InR n) (w:World):
  Calls Tryz.prog 143 #[wd a,.int .i64 n] w fun e E=>e = .returned (.int .i64 (ovI a n))/\Below w.heap.size w E:=by
 by_cases h:n=0
 ·subst h;exact i_H a D w
 ·exact l_1 a n D H h w
end Go.Proofs.YtcpbhhlepdgdkaaGreatDoor.Wd
namespace Go.Proofs.YtcpbhhlepdgdkaaGreatDoor.Wd
open Go.RowKit Fx
def l_e (d x:List Int):Int:=if isP d x then 0 else 1
def q_o (d x:List Int):Int:=if isP d x then hold (b_v x) else 0
def h_Y (d x:List Int):Int:=if isP d x then i_C x else 0
theorem isP.len {d x:List Int} (h:isP d x):1<=x.length/\x.length<=4096:=by
 have:=h.1.2.2;have:=h.1.pos;have:=h.2;omega
theorem g_3 {x:List Int} (D:RI x) (h:x.length<=4096):InW (b_v x):=by
 have:=l_U D;unfold InW;omega
theorem q_p (p p2:Option Addr) (n c V U:Nat) (d x:List Int) (hd:RI d) (R:RI x) (w:World) (h1:Nums .i64 w (.slice p n c) d) (J:Nums .i64 w (.slice p2 V U) x):
  Calls Tryz.prog 113 #[.agg #[.slice p n c,.slice p2 V U]] w fun e w'=>e = .returned (.tuple #[.int .i64 (q_o d x),.int .i64 (l_e d x)])/\Below w.heap.size w w':=by
 have cA:=fun W (hW:Below w.heap.size w W)=>a_B _ _ d x hd W (h1.up hW) (J.up hW);unfold q_o l_e;by_cases H:isP d x
 ·rw [decide_eq_true H] at cA;rw [if_pos H,if_pos H];obtain ⟨_,_,_,e4,HX⟩:=J.lst;cases e4;have hl:=H.len;have wT:=g_3 R hl.2;rw [HX.out.1] at hl;have cT:=fun W (hW:Below w.heap.size w W)=>f_B p2 V U x R hl.2 W (J.up hW);have cF:∀ W,Calls Tryz.prog 141 #[wd (b_v x)] W fun e w'=>e = .returned (.int .i64 (hold (b_v x)))/\Below W.heap.size W w':=fun W=>e_y _ wT W;obtain ⟨th,tl,et,t1,t2,t3,t4,Ht⟩:=words wT;rw [et] at cT cF;obtain ⟨T,eT⟩:∃ T,hold (b_v x)=T:=⟨_,rfl⟩
  rw [eT] at cF ⊢;clear h1 J hd R H HX wT et eT hl;go_enter Tryz.func113,Tryz.ntmps113;go_wp2_with fail
  generalize I:World.alloc _ _=W0;have L:=b_1 (w:=w) I (by go_grown);have XA:Hid (Cel W0 w.heap.size (.slice p n c) (.slice p2 V U)):=a_F I (by simp [go_sem]);clear I;refine (cA W0 L.out).mono ?_;rintro e w1 ⟨rfl,D⟩;have E:=a_N (a_c L.out D) D;clear D;obtain ⟨a0,a1,_,_⟩:=XA.out.up E.out.2;go_wp2_with fail
  refine (cT w1 E.out.1).mono ?_;rintro e w2 ⟨rfl,O⟩;have ab:Hid (Below w.heap.size w w2):=a_c E.out.1 O;clear O a0 a1;go_wp2_with fail
  refine (cF w2).mono ?_;rintro e w3 ⟨rfl,M⟩;have aa:Hid (Below w.heap.size w w3):=a_c ab.out M;clear M;go_wp2;exact bodyPost_ret (v:=.tuple #[.int .i64 T,.int .i64 0]) (by simp [results,Tryz.results113,go_sem]) rfl ⟨rfl,aa.out⟩
 ·rw [decide_eq_false H] at cA;rw [if_neg H,if_neg H];clear h1 J hd R H;go_enter Tryz.func113,Tryz.ntmps113;go_wp2_with fail
  refine (cA _ (by go_grown)).mono ?_;rintro e w1 ⟨rfl,D⟩;have E:Hid (Below w.heap.size w w1):=a_c (a_b w _) D;clear D;go_wp2;exact bodyPost_ret (v:=.tuple #[.int .i64 0,.int .i64 1]) (by simp [results,Tryz.results113,go_sem]) rfl ⟨rfl,E.out⟩
theorem q_q (a:Int) (n:Nat) (D:1<=n):ovI a (n:Int)=hold (rqI a n):=by
 unfold ovI;rw [if_neg (by omega),<- r_F _ _ _ (by omega)]
 congr 2
 ·unfold Fx.differ sg;rw [show decide ((n:Int) < 0)=false from decide_eq_false (by omega),Bool.bne_false];by_cases h:a < 0
  ·rw [decide_eq_true h];simp;omega
  ·rw [decide_eq_false h];simp;omega
theorem j_S (p p2:Option Addr) (n c I R:Nat) (d x:List Int) (hd:RI d) (hx:RI x) (w:World) (h1:Nums .i64 w (.slice p n c) d) (O:Nums .i64 w (.slice p2 I R) x):
  Calls Tryz.prog 114 #[.agg #[.slice p n c,.slice p2 I R]] w fun e V=>e = .returned (.tuple #[.int .i64 (h_Y d x),.int .i64 (l_e d x)])/\Below w.heap.size w V:=by
 have cA:=fun W (L:Below w.heap.size w W)=>a_B _ _ d x hd W (h1.up L) (O.up L);unfold h_Y l_e;by_cases H:isP d x
 ·rw [decide_eq_true H] at cA;rw [if_pos H,if_pos H];obtain ⟨_,_,_,e4,HX⟩:=O.lst;cases e4;have hl:=H.len;have wT:=g_3 hx hl.2;rw [HX.out.1] at hl;have cT:=fun W (L:Below w.heap.size w W)=>f_B p2 I R x hx hl.2 W (O.up L)
  have cF:∀ W,Calls Tryz.prog 143 #[wd (b_v x),.int .i64 (I:Int)] W fun e V=>e = .returned (.int .i64 (i_C x))/\Below W.heap.size W V:=fun W=>by
   have:=over_any (b_v x) (I:Int) wT (by unfold InR;omega) W;rw [q_q _ _ hl.1] at this;rw [i_C,HX.out.1];exact this
  obtain ⟨th,tl,et,t1,t2,t3,t4,Ht⟩:=words wT;rw [et] at cT cF;obtain ⟨T,eT⟩:∃ T,i_C x=T:=⟨_,rfl⟩
  rw [eT] at cF ⊢;have ad:(I:Int)<=4096:=by omega
  clear h1 O hd hx H HX wT et eT hl;haveI:Nonempty World:=⟨w⟩
  go_enter Tryz.func114,Tryz.ntmps114;go_wp2_with fail
  generalize J:World.alloc _ _=W0;have U:=b_1 (w:=w) J (by go_grown);have XA:Hid (Cel W0 w.heap.size (.slice p n c) (.slice p2 I R)):=a_F J (by simp [go_sem]);clear J;refine (cA W0 U.out).mono ?_;rintro e w1 ⟨rfl,D⟩;have E:=a_N (a_c U.out D) D;clear D;obtain ⟨a0,a1,_,_⟩:=XA.out.up E.out.2;have ac:=a_a a0;have M:Hid (∀ W,Below w1.heap.size w1 W->Calls Tryz.prog 142 #[.slice p2 I R] W fun e V=>e = .returned (.agg #[.int .i64 th,.int .u64 tl])/\Below W.heap.size W V):=fun W L=>cT W (a_c E.out.1 L);clear cT;go_wp2_with fail
  refine j_B 9 14 (by kernel_rfl) rfl rfl (by kernel_rfl) ?_;apply Exists.intro;refine ⟨?_,?_⟩
  ·intro F hF;have hFc:=hF.cell;have hFf:=hF.frozen;simp only [List.take_succ_cons,List.take_zero,List.eraseIdx_cons_succ,List.eraseIdx_cons_zero]
   repeat (go_big_quiet_step (first|(go_at_call 142;exact hF.call (M.out _ (hF.below _)))|(go_at_call 143;with_reducible exact hF.call (cF _))))
   refine wpQuiet_nil ?_;exact rfl
  ·intro W8 aa;have ab:Hid (Below w.heap.size w W8):=a_c E.out.1 aa;clear aa a0 a1 M cF;simp only [List.drop_succ_cons,List.drop_zero];go_wp2;exact bodyPost_ret (v:=.tuple #[.int .i64 T,.int .i64 0]) (by simp [results,Tryz.results114,go_sem]) rfl ⟨rfl,ab.out⟩
 ·rw [decide_eq_false H] at cA;rw [if_neg H,if_neg H];clear h1 O hd hx H;go_enter Tryz.func114,Tryz.ntmps114;go_wp2_with fail
  refine (cA _ (by go_grown)).mono ?_;rintro e w1 ⟨rfl,D⟩;have E:Hid (Below w.heap.size w w1):=a_c (a_b w _) D;clear D;go_wp2;exact bodyPost_ret (v:=.tuple #[.int .i64 0,.int .i64 1]) (by simp [results,Tryz.results114,go_sem]) rfl ⟨rfl,E.out⟩
theorem l_2 (x:List Int) (a m:Nat) (h:a+m<=x.length):(x.drop a).take m=(List.range m).map fun j=>x.getD (a+j) 0:=by
 refine List.ext_getElem (by simp;omega) fun i D E=>?_;simp at D E;simp only [List.getElem_take,List.getElem_drop,List.getElem_map,List.getElem_range];rw [a_r x (a+i) 0 (by omega)]
theorem o_i {W:World} {J:Option Addr} {R I:Nat} {x:List Int} (H D i:Nat) (M:x.length=H*D) (V:i < H) (E:R<=I) (L:Nums .i64 W (.slice J R I) x):Nums .i64 W (sliced J (i*D) ((i+1)*D) I 1) ((List.range D).map fun j=>x.getD (i*D+j) 0):=by
 obtain ⟨_,_,_,e4,O⟩:=L.lst;cases e4;have U:(i+1)*D<=H*D:=Nat.mul_le_mul_right _ V;have k2:i*D+D=(i+1)*D:=by rw [Nat.add_mul,Nat.one_mul]
 have h:=g_Y (k:=.i64) (W:=W) (p:=J) (i:=i*D) (j:=(i+1)*D) (by omega) (by rw [<- O.out.1,M];exact U) O.out.1 E L;rw [show (i+1)*D - i*D=D by omega,l_2 x (i*D) D (by rw [M];omega)] at h;exact h
theorem r_S (H:Option Addr) (i D E:Nat):∃ q,sliced H (i*D) ((i+1)*D) E 1 = .slice q D (E - i*D):=by
 obtain ⟨q,h⟩:=d_f H (i*D) ((i+1)*D) E;rw [show (i+1)*D - i*D=D by rw [Nat.add_mul,Nat.one_mul];omega] at h;exact ⟨q,h⟩
end Go.Proofs.YtcpbhhlepdgdkaaGreatDoor.Wd
namespace Go.Proofs.YtcpbhhlepdgdkaaGreatDoor.Wd
open Go.RowKit
theorem o_j {P:Program} {t e:TypeId} {k:IntKind} {b:Nat} (T:NumT P t e k b) (L:b<=8) (n:Nat) (V:n<=1073741824) (M O:IntKind) (W:World):(Instr.makeSlice t (.int M (n:Int)) (.int O (n:Int))).run P W = .ok (.slice (some ⟨W.heap.size,0,none⟩) n n) (W.alloc (.cells (a_4 k (List.replicate n 0)).toArray e)):=by
 obtain ⟨D,hi,I,J,E⟩:=g_B T;have hm:b*n<=8*1073741824:=Nat.mul_le_mul L V
 have H:(D.bytes:Int)*(n:Int)<=281474976710656:=by
  have h:((D.bytes*n:Nat):Int)<=281474976710656:=by rw [E];omega
  rwa [Int.natCast_mul] at h
 have R:=run_make (P:=P) W t e D (.int k 0) T.ht hi I M O n n (by omega) (Int.le_refl _) H (by omega);simp only [Int.toNat_natCast] at R;rw [R]
 have U:(madeCells (Value.int k 0).cells (n*D.size))=(a_4 k (List.replicate n 0)).toArray:=by
  rw [J,Nat.mul_one];apply Array.toList_inj.1;have:=toList_madeCells_one (Value.int k 0) n;rw [show (Value.int k 0).cells=#[Value.int k 0] from rfl,this];unfold a_4;rw [List.map_replicate]
 rw [U]
theorem j_T {k:IntKind} {e:TypeId} {w3 W4:World} {n:Nat} (I:n<=1073741824) (h:((w3.alloc (.cells (a_4 k (List.replicate n 0)).toArray e)).alloc (.cells (a_4 k (List.replicate n 0)).toArray e)).drew=W4):
  Below w3.heap.size w3 W4/\OwnK k e W4 w3.heap.size (.slice (some ⟨w3.heap.size,0,none⟩) n n) (List.replicate n 0)/\OwnK k e W4 w3.heap.size (.slice (some ⟨w3.heap.size+1,0,none⟩) n n) (List.replicate n 0):=by
 have M:=a_b w3 (.cells (a_4 k (List.replicate n 0)).toArray e);have H:=a_b (w3.alloc (.cells (a_4 k (List.replicate n 0)).toArray e)) (.cells (a_4 k (List.replicate n 0)).toArray e)
 have D:Below ((w3.alloc (.cells (a_4 k (List.replicate n 0)).toArray e)).alloc (.cells (a_4 k (List.replicate n 0)).toArray e)).heap.size ((w3.alloc (.cells (a_4 k (List.replicate n 0)).toArray e)).alloc (.cells (a_4 k (List.replicate n 0)).toArray e)) W4:=by
  rw [<- h];exact ⟨rfl,rfl,rfl,Nat.le_refl _,fun _ _=>rfl⟩
 have J:=c_b (k:=k) (e:=e) w3 (List.replicate n 0) n (by simp) I;have L:=c_b (k:=k) (e:=e) (w3.alloc (.cells (a_4 k (List.replicate n 0)).toArray e)) (List.replicate n 0) n (by simp) I;have E:(w3.alloc (.cells (a_4 k (List.replicate n 0)).toArray e)).heap.size=w3.heap.size+1:=Array.size_push _;refine ⟨a_c (a_c M H) D,(J.up H).up D,?_⟩;have:=(L.up D).low (show w3.heap.size<=_ by rw [E];omega);rw [E] at this;exact this
end Go.Proofs.YtcpbhhlepdgdkaaGreatDoor.Wd
