/- What math/bits.Div64 hands back, wherever the quotient fits: the quotient and the rest. What fix.Div hands back, for all numbers. -/
import Derived.Test.YtjlofobnmjompaaGreatDoorT01
import Derived.Test.YtjlofobnmjompaaGreatDoorT06
import Derived.BigQuiet
import Derived.Deep.QuietTactic
set_option linter.unusedVariables false
set_option linter.unusedSimpArgs false
set_option maxHeartbeats 16000000
set_option maxRecDepth 16000
namespace Go.Proofs.YtjlofobnmjompaaGreatDoor.Fx
open Go.RowKit Kn
theorem s_S (y:Int) (s:Nat) (I:0<=y) (H:y < 18446744073709551616) (e:(s:Int)=64 - (Lib.bitLen y.toNat:Int)) (w:World):
  Calls Tryz.prog 191 #[.int .u64 y] w fun e D=>e = .returned (.int .i64 s)/\D=w:=by
 rw [e];exact Tryz.bits_LeadingZeros64 y w (by omega) (by omega)
theorem p_3 {a b c d:Int} (D:a=c) (H:b=d):Ending.returned (.tuple #[.int .u64 a,.int .u64 b]) = .returned (.tuple #[.int .u64 c,.int .u64 d]):=by rw [D,H]
theorem k_z (s:Nat) (hi lo y Y D I U L V1 V0 Q1 V M A B:Int) (hh:hi < y) (h0:0 < hi) (hy:y < 18446744073709551616) (hl:0<=lo/\lo < 18446744073709551616) (hs:s < 64)
  (e:Hid ((s:Int)=64 - (Lib.bitLen y.toNat:Int)))
  (e1:IntKind.u64.wrap (y*2 ^ s)=Y) (hY:9223372036854775808<=Y/\Y < 18446744073709551616)
  (e2:Y / 4294967296=D) (aB:2147483648<=D/\D < 4294967296)
  (e3:bits .and .u64 Y 4294967295=I) (az:0<=I/\I < 4294967296) (H:Hid (Y=D*4294967296+I))
  (e4:bits .or .u64 (IntKind.u64.wrap (hi*2 ^ s)) (lo / 2 ^ (64 - s))=U) (hU:0<=U/\U < Y)
  (e5:IntKind.u64.wrap (lo*2 ^ s)=L) (hL:0<=L/\L < 18446744073709551616)
  (e6:L / 4294967296=V1) (ax:0<=V1/\V1 < 4294967296)
  (e7:bits .and .u64 L 4294967295=V0) (au:0<=V0/\V0 < 4294967296)
  (aD:0<=Q1/\Q1 < 4294967296) (ab:Hid (Q1=dig U V1 Y))
  (e9:IntKind.u64.wrap (IntKind.u64.wrap (IntKind.u64.wrap (U*4294967296)+V1) - IntKind.u64.wrap (Q1*Y))=V) (aC:0<=V/\V < Y)
  (ay:0<=M/\M < 4294967296) (ad:Hid (M=dig V V0 Y))
  (eA:Hid (Q1*4294967296+M=A)) (eB:Hid (IntKind.u64.wrap (IntKind.u64.wrap (IntKind.u64.wrap (V*4294967296)+V0) - IntKind.u64.wrap (M*Y)) / 2 ^ s=B))
  (w:World):
  Calls Tryz.prog 182 #[.int .u64 hi,.int .u64 lo,.int .u64 y] w fun e w'=>e = .returned (.tuple #[.int .u64 A,.int .u64 B])/\w'=w:=by
 go_enter Tryz.func182,Tryz.ntmps182;go_wp2_with (go_at_call 191;refine (s_S y s (by omega) hy e.out _).mono ?_;rintro e w' ⟨rfl,rfl⟩)
 clear e1 e2 e3 e4 e5 e6 e7
 go_loop [15,16] (fun q r=>∃ qn rn:Int,q = .int .u64 qn/\r = .int .u64 rn/\Hid (qn*D+rn=U)/\Q1<=qn/\qn<=4294967297/\0<=rn/\rn < 4294967296) (fun q _=>(intOf q).toNat)
 case atStart=>
  have a:=Int.emod_nonneg U (show D≠0 by omega);have b:=Int.emod_lt_of_pos U (show 0 < D by omega);exact ⟨U / D,U % D,rfl,by rw [g_g (by omega) (by omega) (by omega) (by omega)],Kn.start_eq,by rw [ab.out];exact h_J (by omega) (by omega) (by omega) H.out (by omega) (by omega) (by omega),o_7 (by omega) (by omega) H.out (by omega),a,by omega⟩
 case round=>
  obtain ⟨q,r,rfl,rfl,R,ah,ao,ap,aq⟩:=hrel;clear ‹w'=w'›;have ai:0<=q*I:=Int.mul_nonneg (by omega) (by omega);by_cases ac:(4294967296<=q∨4294967296*r+V1 < q*I)/\r+D < 4294967296
  ·obtain ⟨hc,an⟩:=ac;have aa:Q1 < q:=by rw [ab.out];exact g_T q r (by omega) (by omega) (by omega) H.out R.out hc
   have aj:Hid ((q - 1)*D+(r+D)=U):=by have:=R.out;show (q - 1)*D+(r+D)=U;rw [Int.sub_mul];omega
   by_cases hb:4294967296<=q
   ·clear hc;go_wp2
    go_round
    case rel=>exact ⟨q - 1,r+D,rfl,rfl,aj,by omega,by omega,by omega,by omega⟩
    case measure=>simp [intOf];omega
   ·have J:q*I<=4294967295*4294967295:=Int.mul_le_mul (by omega) (by omega) (by omega) (by omega);have ar:4294967296*r+V1 < q*I:=by omega
    clear hc;go_wp2
    go_round
    case rel=>exact ⟨q - 1,r+D,rfl,rfl,aj,by omega,by omega,by omega,by omega⟩
    case measure=>simp [intOf];omega
  ·have ae:(4294967296<=q/\4294967296<=r+D/\q - 1=Q1)∨(q < 4294967296/\4294967296*r+V1 < q*I/\4294967296<=r+D/\q - 1=Q1)∨(q < 4294967296/\q*I<=4294967296*r+V1/\0<=r/\q=Q1):=by
    by_cases hc:4294967296<=q∨4294967296*r+V1 < q*I
    ·have aa:Q1 < q:=by rw [ab.out];exact g_T q r (by omega) (by omega) (by omega) H.out R.out hc
     have hp:0<=q - 1:=by omega
     have hq:q - 1=Q1:=by
      rw [ab.out] at aa ⊢;exact l_M (q - 1) (r+D) (by omega) (by omega) (by omega) (by omega) H.out (by have:=R.out;rw [Int.sub_mul];omega) (by omega) hp (by omega) (by omega)
     omega
    ·have hq:q=Q1:=by
      rw [ab.out] at ah ⊢;exact g_U q r (by omega) H.out R.out (by omega) ah
     omega
   clear ac;have J:q < 4294967296->q*I<=4294967295*4294967295:=fun h=>Int.mul_le_mul (by omega) (by omega) (by omega) (by omega);clear R ah;have af:∀ q r:Int,Hid (q*D+r=V)->4294967296<=q∨4294967296*r+V0 < q*I->M < q:=fun q r h hc=>by rw [ad.out];exact g_T q r (by omega) (by omega) (by omega) H.out h.out hc
   rcases ae with ⟨x1,x2,x3⟩|⟨x1,x2,x3,x4⟩|⟨x1,x2,x3,rfl⟩
   all_goals
    have am:q*I<=4294967295*4294967295∨4294967296<=q:=by
     by_cases hz:q < 4294967296
     ·exact Or.inl (J hz)
     ·omega
    clear J;go_wp2
    go_loop [18,16] (fun q r=>∃ qn rn:Int,q = .int .u64 qn/\r = .int .u64 rn/\Hid (qn*D+rn=V)/\M<=qn/\qn<=4294967297/\0<=rn/\rn < 4294967296) (fun q _=>(intOf q).toNat)
    case atStart=>
     have a:=Int.emod_nonneg V (show D≠0 by omega);have b:=Int.emod_lt_of_pos V (show 0 < D by omega);exact ⟨V / D,V % D,rfl,by rw [g_g (by omega) (by omega) (by omega) (by omega)],Kn.start_eq,by rw [ad.out];exact h_J (by omega) (by omega) (by omega) H.out (by omega) (by omega) (by omega),o_7 (by omega) (by omega) H.out (by omega),a,by omega⟩
    case round=>
     clear x1 x2 x3 ai am ao ap aq
     try clear x4
     obtain ⟨p,t,rfl,rfl,O,ag,aA,aw,av⟩:=hrel;clear ‹w'=w'›;have ai:0<=p*I:=Int.mul_nonneg (by omega) (by omega);by_cases ac:(4294967296<=p∨4294967296*t+V0 < p*I)/\t+D < 4294967296
     ·obtain ⟨hc,an⟩:=ac;have aa:M < p:=af p t O hc;have ak:Hid ((p - 1)*D+(t+D)=V):=by have:=O.out;show (p - 1)*D+(t+D)=V;rw [Int.sub_mul];omega
      by_cases hb:4294967296<=p
      ·clear hc;go_wp2
       go_round
       case rel=>exact ⟨p - 1,t+D,rfl,rfl,ak,by omega,by omega,by omega,by omega⟩
       case measure=>simp [intOf];omega
      ·have J:p*I<=4294967295*4294967295:=Int.mul_le_mul (by omega) (by omega) (by omega) (by omega);have ar:4294967296*t+V0 < p*I:=by omega
       clear hc;go_wp2
       go_round
       case rel=>exact ⟨p - 1,t+D,rfl,rfl,ak,by omega,by omega,by omega,by omega⟩
       case measure=>simp [intOf];omega
     ·have ae:(4294967296<=p/\4294967296<=t+D/\p - 1=M)∨(p < 4294967296/\4294967296*t+V0 < p*I/\4294967296<=t+D/\p - 1=M)∨(p < 4294967296/\p*I<=4294967296*t+V0/\0<=t/\p=M):=by
       by_cases hc:4294967296<=p∨4294967296*t+V0 < p*I
       ·have aa:M < p:=af p t O hc;have hp:0<=p - 1:=by omega
        have hq:p - 1=M:=by
         rw [ad.out] at aa ⊢;exact l_M (p - 1) (t+D) (by omega) (by omega) (by omega) (by omega) H.out (by have:=O.out;rw [Int.sub_mul];omega) (by omega) hp (by omega) (by omega)
        omega
       ·have hq:p=M:=by
         rw [ad.out] at ag ⊢;exact g_U p t (by omega) H.out O.out (by omega) ag
        omega
      clear ac;have J:p < 4294967296->p*I<=4294967295*4294967295:=fun h=>Int.mul_le_mul (by omega) (by omega) (by omega) (by omega);clear O ag af;rcases ae with ⟨x1,x2,x3⟩|⟨x1,x2,x3,x4⟩|⟨x1,x2,x3,rfl⟩
      all_goals
       have am:p*I<=4294967295*4294967295∨4294967296<=p:=by
        by_cases hz:p < 4294967296
        ·exact Or.inl (J hz)
        ·omega
       clear J;go_wp2;go_ret2;exact ⟨p_3 eA.out eB.out,rfl⟩
/-- Wherever the quotient fits one word, and the dividend's high word is not 0. -/
theorem l_O (H D y:Int) (hh:H < y) (h0:0 < H) (hy:y < 18446744073709551616) (hl:0<=D/\D < 18446744073709551616) (w:World):
  Calls Tryz.prog 182 #[.int .u64 H,.int .u64 D,.int .u64 y] w fun e w'=>e = .returned (.tuple #[.int .u64 ((H*18446744073709551616+D) / y),.int .u64 ((H*18446744073709551616+D) % y)])/\w'=w:=by
 obtain ⟨s,hs,es,hY⟩:=n_X y (by omega) hy;obtain ⟨j1,j2,j3,j4,j5⟩:=p_1 H D y s hh h0 (by omega) hs hY hl;have I:(y*2 ^ s)=(y*2 ^ s) / 4294967296*4294967296+(y*2 ^ s) % 4294967296:=by omega
 generalize eY:y*2 ^ s=Y at *;generalize eU:H*2 ^ s+D / 2 ^ (64 - s)=U at *;generalize eL:D*2 ^ s % 18446744073709551616=L at *;have hL:0<=L/\L < 18446744073709551616:=by omega
 have O:=e_w (Y:=Y) (u:=U) (v:=L / 4294967296) (by omega) (by omega) (by omega);have V:=l_L (Y:=Y) (u:=U) (v:=L / 4294967296) (by omega) (by omega) (by omega);have ag:=Int.emod_nonneg (U*4294967296+L / 4294967296) (show Y≠0 by omega);have ah:=Int.emod_lt_of_pos (U*4294967296+L / 4294967296) (show 0 < Y by omega);have ab:=o_8 U (L / 4294967296) Y;have J:=l_N (Y:=Y) (u:=U) (v:=L / 4294967296) (by omega) (by omega);generalize eR:(U*4294967296+L / 4294967296) % Y=R at *;have ad:=e_w (Y:=Y) (u:=R) (v:=L % 4294967296) (by omega) (by omega) (by omega);have ae:=l_L (Y:=Y) (u:=R) (v:=L % 4294967296) (by omega) (by omega) (by omega);have M:=Int.emod_nonneg (R*4294967296+L % 4294967296) (show Y≠0 by omega);have ac:=Int.emod_lt_of_pos (R*4294967296+L % 4294967296) (show 0 < Y by omega);have aa:=o_8 R (L % 4294967296) Y;have af:=l_N (Y:=Y) (u:=R) (v:=L % 4294967296) (by omega) (by omega);have hP:(0:Int) < 2 ^ s:=Int.pow_pos (by decide);obtain ⟨f1,f2⟩:=p_2 (H*18446744073709551616+D) y (2 ^ s) Y U L (dig U (L / 4294967296) Y) (dig R (L % 4294967296) Y) R ((R*4294967296+L % 4294967296) % Y) hP eY.symm (by omega) M ac j5 ab aa
 exact k_z s H D y Y (Y / 4294967296) (Y % 4294967296) U L (L / 4294967296) (L % 4294967296) (dig U (L / 4294967296) Y) R (dig R (L % 4294967296) Y) _ _ hh h0 hy hl hs es
  (by rw [eY];exact i_p Y (by omega) (by omega)) hY rfl (by omega) (r_x Y (by omega) (by omega)) (by omega) I j1 (by omega) j2 hL rfl (by omega) (r_x L (by omega) (by omega)) (by omega) ⟨O,V⟩ rfl J (by omega) ⟨ad,ae⟩ rfl f1.symm (by show _ / _=_;rw [af,f2]) w
theorem i_q (D y:Int) (H:0 < y) (L:y < 18446744073709551616) (J:0<=D/\D < 18446744073709551616) (w:World):
  Calls Tryz.prog 182 #[.int .u64 0,.int .u64 D,.int .u64 y] w fun e I=>e = .returned (.tuple #[.int .u64 (D / y),.int .u64 (D % y)])/\∃ n,I=w.drewN n:=by
 go_enter Tryz.func182,Tryz.ntmps182;go_wp2_with fail
 go_quiet (fail)
 go_wp2;go_ret2;exact ⟨rfl,_,rfl⟩
theorem h_K (D H y:Int) (R:0<=D) (M:D < y) (L:y < 18446744073709551616) (J:0<=H/\H < 18446744073709551616) (w:World):
  Calls Tryz.prog 182 #[.int .u64 D,.int .u64 H,.int .u64 y] w fun e I=>e = .returned (.tuple #[.int .u64 ((D*18446744073709551616+H) / y),.int .u64 ((D*18446744073709551616+H) % y)])/\∃ n,I=w.drewN n:=by
 by_cases h:D=0
 ·subst h;rw [Int.zero_mul,Int.zero_add];exact i_q H y M L J w
 ·exact (l_O D H y M (by omega) L J w).mono fun e I ⟨O,U⟩=>⟨O,0,U⟩
theorem n_Y (x y q r:Int) (O:0<=x) (H:x<=9223372036854775808) (R:0 < y) (J:y<=9223372036854775808) (L:x / 4294967296 < y) (I:x*4294967296 / y=q) (D:x*4294967296 % y=r) (w:World):
  Calls Tryz.prog 182 #[.int .u64 (x / 4294967296),.int .u64 (IntKind.u64.wrap (x*4294967296)),.int .u64 y] w fun e M=>e = .returned (.tuple #[.int .u64 q,.int .u64 r])/\∃ n,M=w.drewN n:=by
 have c:=h_K (x / 4294967296) (x*4294967296 % 18446744073709551616) y (by omega) L (by omega) (by omega) w;rw [show x / 4294967296*18446744073709551616+x*4294967296 % 18446744073709551616=x*4294967296 by omega,I,D] at c;rw [IntKind.wrap_u64];exact c
theorem j_H (a x:Int) (D:InR a) (I:(a.natAbs:Int)=x) (w:World):
  Calls Tryz.prog 162 #[.int .i64 a] w fun e H=>e = .returned (.int .u64 x)/\H=w:=by
 subst I;exact size_any a _ D rfl w
theorem i_r (q r d:Int) (m:Nat) (H:0<=q) (M:q < 18446744073709551615) (D:0<=r) (L:r < d) (O:d<=9223372036854775808) (J:nr q.toNat r.toNat d.toNat=m) (w:World):
  Calls Tryz.prog 184 #[.int .u64 q,.int .u64 r,.int .u64 d] w fun e I=>e = .returned (.int .u64 m)/\I=w:=by
 subst J;obtain ⟨q,rfl⟩:=Int.eq_ofNat_of_zero_le H;obtain ⟨r,rfl⟩:=Int.eq_ofNat_of_zero_le D;obtain ⟨d,rfl⟩:=Int.eq_ofNat_of_zero_le (show 0<=d by omega);exact nearest_any q r d (by omega) (by omega) (by omega) w
theorem over_any (a:Int) (w:World):
  Calls Tryz.prog 189 #[.int .i64 a] w fun e D=>e = .returned (.int .i64 (f_U a))/\D=w:=by
 by_cases h:a=0
 ·subst h;go_enter Tryz.func189,Tryz.ntmps189;go_wp2;go_ret;exact ⟨rfl,rfl⟩
 ·have H:(a==0)=false:=by simpa using h
  go_enter Tryz.func189,Tryz.ntmps189;go_wp2_with (go_at_call 147;refine (bound_any _ _).mono ?_;rintro e D ⟨rfl,rfl⟩)
  go_ret;exact ⟨ret_int (n_J a h),rfl⟩
theorem i_s (a b:Int) (ha:InR a) (hb:InR b) (w:World):
  Calls Tryz.prog 179 #[.int .i64 a,.int .i64 b] w fun e J=>e = .returned (.int .i64 (n_i a b))/\∃ n,J=w.drewN n:=by
 by_cases D:b=0
 ·subst D;go_enter Tryz.func179,Tryz.ntmps179;go_wp2_with (go_at_call 189;refine (over_any _ _).mono ?_;rintro e J ⟨rfl,rfl⟩)
  go_ret;exact ⟨rfl,0,rfl⟩
 ·have ab:(b==0)=false:=by simpa using D
  obtain ⟨x,V⟩:∃ x:Int,(a.natAbs:Int)=x:=⟨_,rfl⟩
  obtain ⟨y,ey⟩:∃ y:Int,(b.natAbs:Int)=y:=⟨_,rfl⟩
  have hx:0<=x/\x<=9223372036854775808:=by unfold InR at ha;omega
  have M:0 < y/\y<=9223372036854775808:=by unfold InR at hb;omega
  have E:Hid ((a.natAbs:Int)=x/\(b.natAbs:Int)=y/\b≠0):=⟨V,ey,D⟩
  clear V ey D;by_cases hf:y<=x / 2147483648
  all_goals
   go_enter Tryz.func179,Tryz.ntmps179;go_wp2_with fail
   refine (j_H a x ha E.out.1 _).mono ?_;rintro e J ⟨rfl,rfl⟩;go_wp2_with fail
   refine (j_H b y hb E.out.2.1 _).mono ?_;rintro e J ⟨rfl,rfl⟩;go_wp2_with fail
  ·refine (bound_any _ _).mono ?_;rintro e J ⟨rfl,rfl⟩;go_wp2;go_ret;exact ⟨ret_int (p_P a b x y E.out.1 E.out.2.1 E.out.2.2 M.1 hf),0,rfl⟩
  ·obtain ⟨q,I⟩:∃ q:Int,x*4294967296 / y=q:=⟨_,rfl⟩
   obtain ⟨r,H⟩:∃ r:Int,x*4294967296 % y=r:=⟨_,rfl⟩
   have U:0<=r:=by rw [<- H];exact Int.emod_nonneg _ (by omega)
   have O:r < y:=by rw [<- H];exact Int.emod_lt_of_pos _ (by omega)
   have R:0<=q:=by rw [<- I];exact Int.ediv_nonneg (by omega) (by omega)
   have aa:q < 9223372036854775808:=by rw [<- I];exact Int.ediv_lt_of_lt_mul (by omega) (by omega)
   refine (n_Y x y q r hx.1 hx.2 M.1 M.2 (by omega) I H _).mono ?_;rintro e w2 ⟨rfl,n,rfl⟩;obtain ⟨m,em⟩:∃ m:Nat,nr q.toNat r.toNat y.toNat=m:=⟨_,rfl⟩
   have hm:m<=9223372036854775808:=by
    have:=r_k q.toNat r.toNat y.toNat
    omega
   have L:Hid (x*4294967296 / y=q/\x*4294967296 % y=r/\nr q.toNat r.toNat y.toNat=m):=⟨I,H,em⟩
   clear I H em;go_wp2_with fail
   refine (i_r q r y m R (by omega) U O M.2 L.out.2.2 _).mono ?_;rintro e w3 ⟨rfl,rfl⟩;go_wp2_with fail
   refine (j_y _ m (by omega) _).mono ?_;rintro e w3 ⟨rfl,rfl⟩;go_wp2;go_ret;refine ⟨ret_int (n_K a b x y m E.out.1 E.out.2.1 E.out.2.2 ?_),n,rfl⟩;rw [L.out.1,L.out.2.1,L.out.2.2]
end Go.Proofs.YtjlofobnmjompaaGreatDoor.Fx
