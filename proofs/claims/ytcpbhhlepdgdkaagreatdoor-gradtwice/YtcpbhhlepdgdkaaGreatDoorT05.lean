/- What math/bits.Div64 hands back, whereve -/
import Derived.Test.YtcpbhhlepdgdkaaGreatDoorT04
set_option linter.unusedVariables false
set_option linter.unusedSimpArgs false
set_option maxHeartbeats 16000000
set_option maxRecDepth 16000
namespace Go.Proofs.YtcpbhhlepdgdkaaGreatDoor.Fx
open Go.RowKit Kn
theorem s_5 (y:Int) (s:Nat) (E:0<=y) (H:y < 18446744073709551616) (e:(s:Int)=64 - (Lib.bitLen y.toNat:Int)) (w:World):
  Calls Tryz.prog 180 #[.int .u64 y] w fun e D=>e = .returned (.int .i64 s)/\D=w:=by
 rw [e];exact Tryz.bits_LeadingZeros64 y w (by omega) (by omega)
theorem q_n {a b c d:Int} (E:a=c) (D:b=d):Ending.returned (.tuple #[.int .u64 a,.int .u64 b]) = .returned (.tuple #[.int .u64 c,.int .u64 d]):=by rw [E,D]
theorem k_H (s:Nat) (hi lo y Y D E U L V1 V0 Q1 O J A B:Int) (hh:hi < y) (h0:0 < hi) (hy:y < 18446744073709551616) (hl:0<=lo/\lo < 18446744073709551616) (hs:s < 64)
  (e:Hid ((s:Int)=64 - (Lib.bitLen y.toNat:Int)))
  (e1:IntKind.u64.wrap (y*2 ^ s)=Y) (hY:9223372036854775808<=Y/\Y < 18446744073709551616)
  (e2:Y / 4294967296=D) (ay:2147483648<=D/\D < 4294967296)
  (e3:bits .and .u64 Y 4294967295=E) (aD:0<=E/\E < 4294967296) (H:Hid (Y=D*4294967296+E))
  (e4:bits .or .u64 (IntKind.u64.wrap (hi*2 ^ s)) (lo / 2 ^ (64 - s))=U) (hU:0<=U/\U < Y)
  (e5:IntKind.u64.wrap (lo*2 ^ s)=L) (hL:0<=L/\L < 18446744073709551616)
  (e6:L / 4294967296=V1) (aA:0<=V1/\V1 < 4294967296)
  (e7:bits .and .u64 L 4294967295=V0) (av:0<=V0/\V0 < 4294967296)
  (aw:0<=Q1/\Q1 < 4294967296) (ab:Hid (Q1=dig U V1 Y))
  (e9:IntKind.u64.wrap (IntKind.u64.wrap (IntKind.u64.wrap (U*4294967296)+V1) - IntKind.u64.wrap (Q1*Y))=O) (aC:0<=O/\O < Y)
  (ax:0<=J/\J < 4294967296) (ad:Hid (J=dig O V0 Y))
  (eA:Hid (Q1*4294967296+J=A)) (eB:Hid (IntKind.u64.wrap (IntKind.u64.wrap (IntKind.u64.wrap (O*4294967296)+V0) - IntKind.u64.wrap (J*Y)) / 2 ^ s=B))
  (w:World):
  Calls Tryz.prog 171 #[.int .u64 hi,.int .u64 lo,.int .u64 y] w fun e w'=>e = .returned (.tuple #[.int .u64 A,.int .u64 B])/\w'=w:=by
 go_enter Tryz.func171,Tryz.ntmps171;go_wp2_with (go_at_call 180;refine (s_5 y s (by omega) hy e.out _).mono ?_;rintro e w' ⟨rfl,rfl⟩)
 clear e1 e2 e3 e4 e5 e6 e7
 go_loop [15,16] (fun q r=>∃ qn rn:Int,q = .int .u64 qn/\r = .int .u64 rn/\Hid (qn*D+rn=U)/\Q1<=qn/\qn<=4294967297/\0<=rn/\rn < 4294967296) (fun q _=>(intOf q).toNat)
 case atStart=>
  have a:=Int.emod_nonneg U (show D≠0 by omega);have b:=Int.emod_lt_of_pos U (show 0 < D by omega);exact ⟨U / D,U % D,rfl,by rw [g_m (by omega) (by omega) (by omega) (by omega)],Kn.start_eq,by rw [ab.out];exact h_W (by omega) (by omega) (by omega) H.out (by omega) (by omega) (by omega),p_m (by omega) (by omega) H.out (by omega),a,by omega⟩
 case round=>
  obtain ⟨q,r,rfl,rfl,V,ae,ap,an,ao⟩:=hrel;clear ‹w'=w'›;have am:0<=q*E:=Int.mul_nonneg (by omega) (by omega);by_cases aa:(4294967296<=q∨4294967296*r+V1 < q*E)/\r+D < 4294967296
  ·obtain ⟨M,aq⟩:=aa;have ac:Q1 < q:=by rw [ab.out];exact g_Z q r (by omega) (by omega) (by omega) H.out V.out M
   have ai:Hid ((q - 1)*D+(r+D)=U):=by have:=V.out;show (q - 1)*D+(r+D)=U;rw [Int.sub_mul];omega
   by_cases hb:4294967296<=q
   ·clear M;go_wp2
    go_round
    case rel=>exact ⟨q - 1,r+D,rfl,rfl,ai,by omega,by omega,by omega,by omega⟩
    case measure=>simp [intOf];omega
   ·have I:q*E<=4294967295*4294967295:=Int.mul_le_mul (by omega) (by omega) (by omega) (by omega);have ar:4294967296*r+V1 < q*E:=by omega
    clear M;go_wp2
    go_round
    case rel=>exact ⟨q - 1,r+D,rfl,rfl,ai,by omega,by omega,by omega,by omega⟩
    case measure=>simp [intOf];omega
  ·have ag:(4294967296<=q/\4294967296<=r+D/\q - 1=Q1)∨(q < 4294967296/\4294967296*r+V1 < q*E/\4294967296<=r+D/\q - 1=Q1)∨(q < 4294967296/\q*E<=4294967296*r+V1/\0<=r/\q=Q1):=by
    by_cases M:4294967296<=q∨4294967296*r+V1 < q*E
    ·have ac:Q1 < q:=by rw [ab.out];exact g_Z q r (by omega) (by omega) (by omega) H.out V.out M
     have hp:0<=q - 1:=by omega
     have hq:q - 1=Q1:=by
      rw [ab.out] at ac ⊢;exact l_X (q - 1) (r+D) (by omega) (by omega) (by omega) (by omega) H.out (by have:=V.out;rw [Int.sub_mul];omega) (by omega) hp (by omega) (by omega)
     omega
    ·have hq:q=Q1:=by
      rw [ab.out] at ae ⊢;exact g_0 q r (by omega) H.out V.out (by omega) ae
     omega
   clear aa;have I:q < 4294967296->q*E<=4294967295*4294967295:=fun h=>Int.mul_le_mul (by omega) (by omega) (by omega) (by omega);clear V ae;have ah:∀ q r:Int,Hid (q*D+r=O)->4294967296<=q∨4294967296*r+V0 < q*E->J < q:=fun q r h M=>by rw [ad.out];exact g_Z q r (by omega) (by omega) (by omega) H.out h.out M
   rcases ag with ⟨x1,x2,x3⟩|⟨x1,x2,x3,x4⟩|⟨x1,x2,x3,rfl⟩
   all_goals
    have aj:q*E<=4294967295*4294967295∨4294967296<=q:=by
     by_cases hz:q < 4294967296
     ·exact Or.inl (I hz)
     ·omega
    clear I;go_wp2
    go_loop [18,16] (fun q r=>∃ qn rn:Int,q = .int .u64 qn/\r = .int .u64 rn/\Hid (qn*D+rn=O)/\J<=qn/\qn<=4294967297/\0<=rn/\rn < 4294967296) (fun q _=>(intOf q).toNat)
    case atStart=>
     have a:=Int.emod_nonneg O (show D≠0 by omega);have b:=Int.emod_lt_of_pos O (show 0 < D by omega);exact ⟨O / D,O % D,rfl,by rw [g_m (by omega) (by omega) (by omega) (by omega)],Kn.start_eq,by rw [ad.out];exact h_W (by omega) (by omega) (by omega) H.out (by omega) (by omega) (by omega),p_m (by omega) (by omega) H.out (by omega),a,by omega⟩
    case round=>
     clear x1 x2 x3 am aj ap an ao
     try clear x4
     obtain ⟨p,t,rfl,rfl,R,af,aB,az,au⟩:=hrel;clear ‹w'=w'›;have am:0<=p*E:=Int.mul_nonneg (by omega) (by omega);by_cases aa:(4294967296<=p∨4294967296*t+V0 < p*E)/\t+D < 4294967296
     ·obtain ⟨M,aq⟩:=aa;have ac:J < p:=ah p t R M;have ak:Hid ((p - 1)*D+(t+D)=O):=by have:=R.out;show (p - 1)*D+(t+D)=O;rw [Int.sub_mul];omega
      by_cases hb:4294967296<=p
      ·clear M;go_wp2
       go_round
       case rel=>exact ⟨p - 1,t+D,rfl,rfl,ak,by omega,by omega,by omega,by omega⟩
       case measure=>simp [intOf];omega
      ·have I:p*E<=4294967295*4294967295:=Int.mul_le_mul (by omega) (by omega) (by omega) (by omega);have ar:4294967296*t+V0 < p*E:=by omega
       clear M;go_wp2
       go_round
       case rel=>exact ⟨p - 1,t+D,rfl,rfl,ak,by omega,by omega,by omega,by omega⟩
       case measure=>simp [intOf];omega
     ·have ag:(4294967296<=p/\4294967296<=t+D/\p - 1=J)∨(p < 4294967296/\4294967296*t+V0 < p*E/\4294967296<=t+D/\p - 1=J)∨(p < 4294967296/\p*E<=4294967296*t+V0/\0<=t/\p=J):=by
       by_cases M:4294967296<=p∨4294967296*t+V0 < p*E
       ·have ac:J < p:=ah p t R M;have hp:0<=p - 1:=by omega
        have hq:p - 1=J:=by
         rw [ad.out] at ac ⊢;exact l_X (p - 1) (t+D) (by omega) (by omega) (by omega) (by omega) H.out (by have:=R.out;rw [Int.sub_mul];omega) (by omega) hp (by omega) (by omega)
        omega
       ·have hq:p=J:=by
         rw [ad.out] at af ⊢;exact g_0 p t (by omega) H.out R.out (by omega) af
        omega
      clear aa;have I:p < 4294967296->p*E<=4294967295*4294967295:=fun h=>Int.mul_le_mul (by omega) (by omega) (by omega) (by omega);clear R af ah;rcases ag with ⟨x1,x2,x3⟩|⟨x1,x2,x3,x4⟩|⟨x1,x2,x3,rfl⟩
      all_goals
       have aj:p*E<=4294967295*4294967295∨4294967296<=p:=by
        by_cases hz:p < 4294967296
        ·exact Or.inl (I hz)
        ·omega
       clear I;go_wp2;go_ret2;exact ⟨q_n eA.out eB.out,rfl⟩
/-- Wherever the quotient fits one word, and the dividend's high word is not 0. -/
theorem l_0 (E D y:Int) (hh:E < y) (h0:0 < E) (hy:y < 18446744073709551616) (hl:0<=D/\D < 18446744073709551616) (w:World):
  Calls Tryz.prog 171 #[.int .u64 E,.int .u64 D,.int .u64 y] w fun e w'=>e = .returned (.tuple #[.int .u64 ((E*18446744073709551616+D) / y),.int .u64 ((E*18446744073709551616+D) % y)])/\w'=w:=by
 obtain ⟨s,hs,es,hY⟩:=o_f y (by omega) hy;obtain ⟨j1,j2,j3,j4,j5⟩:=q_m E D y s hh h0 (by omega) hs hY hl;have ab:(y*2 ^ s)=(y*2 ^ s) / 4294967296*4294967296+(y*2 ^ s) % 4294967296:=by omega
 generalize eY:y*2 ^ s=Y at *;generalize eU:E*2 ^ s+D / 2 ^ (64 - s)=U at *;generalize eL:D*2 ^ s % 18446744073709551616=L at *;have hL:0<=L/\L < 18446744073709551616:=by omega
 have I:=e_z (Y:=Y) (u:=U) (v:=L / 4294967296) (by omega) (by omega) (by omega);have ac:=l_W (Y:=Y) (u:=U) (v:=L / 4294967296) (by omega) (by omega) (by omega);have ag:=Int.emod_nonneg (U*4294967296+L / 4294967296) (show Y≠0 by omega);have af:=Int.emod_lt_of_pos (U*4294967296+L / 4294967296) (show 0 < Y by omega);have O:=p_n U (L / 4294967296) Y;have ad:=l_Y (Y:=Y) (u:=U) (v:=L / 4294967296) (by omega) (by omega);generalize eR:(U*4294967296+L / 4294967296) % Y=R at *;have M:=e_z (Y:=Y) (u:=R) (v:=L % 4294967296) (by omega) (by omega) (by omega);have ae:=l_W (Y:=Y) (u:=R) (v:=L % 4294967296) (by omega) (by omega) (by omega);have aa:=Int.emod_nonneg (R*4294967296+L % 4294967296) (show Y≠0 by omega);have V:=Int.emod_lt_of_pos (R*4294967296+L % 4294967296) (show 0 < Y by omega);have J:=p_n R (L % 4294967296) Y;have H:=l_Y (Y:=Y) (u:=R) (v:=L % 4294967296) (by omega) (by omega);have hP:(0:Int) < 2 ^ s:=Int.pow_pos (by decide);obtain ⟨f1,f2⟩:=l_Z (E*18446744073709551616+D) y (2 ^ s) Y U L (dig U (L / 4294967296) Y) (dig R (L % 4294967296) Y) R ((R*4294967296+L % 4294967296) % Y) hP eY.symm (by omega) aa V j5 O J
 exact k_H s E D y Y (Y / 4294967296) (Y % 4294967296) U L (L / 4294967296) (L % 4294967296) (dig U (L / 4294967296) Y) R (dig R (L % 4294967296) Y) _ _ hh h0 hy hl hs es
  (by rw [eY];exact i_D Y (by omega) (by omega)) hY rfl (by omega) (r_P Y (by omega) (by omega)) (by omega) ab j1 (by omega) j2 hL rfl (by omega) (r_P L (by omega) (by omega)) (by omega) ⟨I,ac⟩ rfl ad (by omega) ⟨M,ae⟩ rfl f1.symm (by show _ / _=_;rw [H,f2]) w
theorem i_E (D y:Int) (E:0 < y) (J:y < 18446744073709551616) (I:0<=D/\D < 18446744073709551616) (w:World):
  Calls Tryz.prog 171 #[.int .u64 0,.int .u64 D,.int .u64 y] w fun e H=>e = .returned (.tuple #[.int .u64 (D / y),.int .u64 (D % y)])/\∃ n,H=w.drewN n:=by
 go_enter Tryz.func171,Tryz.ntmps171;go_wp2_with fail
 go_quiet (fail)
 go_wp2;go_ret2;exact ⟨rfl,_,rfl⟩
theorem h_X (D E y:Int) (M:0<=D) (I:D < y) (L:y < 18446744073709551616) (H:0<=E/\E < 18446744073709551616) (w:World):
  Calls Tryz.prog 171 #[.int .u64 D,.int .u64 E,.int .u64 y] w fun e J=>e = .returned (.tuple #[.int .u64 ((D*18446744073709551616+E) / y),.int .u64 ((D*18446744073709551616+E) % y)])/\∃ n,J=w.drewN n:=by
 by_cases h:D=0
 ·subst h;rw [Int.zero_mul,Int.zero_add];exact i_E E y I L H w
 ·exact (l_0 D E y I (by omega) L H w).mono fun e J ⟨R,O⟩=>⟨R,0,O⟩
theorem o_g (x y q r:Int) (M:0<=x) (H:x<=9223372036854775808) (O:0 < y) (L:y<=9223372036854775808) (I:x / 4294967296 < y) (E:x*4294967296 / y=q) (D:x*4294967296 % y=r) (w:World):
  Calls Tryz.prog 171 #[.int .u64 (x / 4294967296),.int .u64 (IntKind.u64.wrap (x*4294967296)),.int .u64 y] w fun e J=>e = .returned (.tuple #[.int .u64 q,.int .u64 r])/\∃ n,J=w.drewN n:=by
 have c:=h_X (x / 4294967296) (x*4294967296 % 18446744073709551616) y (by omega) I (by omega) (by omega) w;rw [show x / 4294967296*18446744073709551616+x*4294967296 % 18446744073709551616=x*4294967296 by omega,E,D] at c;rw [IntKind.wrap_u64];exact c
theorem j_R (a x:Int) (D:InR a) (H:(a.natAbs:Int)=x) (w:World):
  Calls Tryz.prog 151 #[.int .i64 a] w fun e E=>e = .returned (.int .u64 x)/\E=w:=by
 subst H;exact size_any a _ D rfl w
theorem i_F (q r d:Int) (m:Nat) (D:0<=q) (J:q < 18446744073709551615) (E:0<=r) (M:r < d) (L:d<=9223372036854775808) (I:nr q.toNat r.toNat d.toNat=m) (w:World):
  Calls Tryz.prog 173 #[.int .u64 q,.int .u64 r,.int .u64 d] w fun e H=>e = .returned (.int .u64 m)/\H=w:=by
 subst I;obtain ⟨q,rfl⟩:=Int.eq_ofNat_of_zero_le D;obtain ⟨r,rfl⟩:=Int.eq_ofNat_of_zero_le E;obtain ⟨d,rfl⟩:=Int.eq_ofNat_of_zero_le (show 0<=d by omega);exact nearest_any q r d (by omega) (by omega) (by omega) w
theorem over_any (a:Int) (w:World):
  Calls Tryz.prog 178 #[.int .i64 a] w fun e D=>e = .returned (.int .i64 (f_2 a))/\D=w:=by
 by_cases h:a=0
 ·subst h;go_enter Tryz.func178,Tryz.ntmps178;go_wp2;go_ret;exact ⟨rfl,rfl⟩
 ·have E:(a==0)=false:=by simpa using h
  go_enter Tryz.func178,Tryz.ntmps178;go_wp2_with (go_at_call 136;refine (bound_any _ _).mono ?_;rintro e D ⟨rfl,rfl⟩)
  go_ret;exact ⟨ret_int (n_1 a h),rfl⟩
theorem i_G (a b:Int) (V:InR a) (hb:InR b) (w:World):
  Calls Tryz.prog 168 #[.int .i64 a,.int .i64 b] w fun e H=>e = .returned (.int .i64 (n_z a b))/\∃ n,H=w.drewN n:=by
 by_cases D:b=0
 ·subst D;go_enter Tryz.func168,Tryz.ntmps168;go_wp2_with (go_at_call 178;refine (over_any _ _).mono ?_;rintro e H ⟨rfl,rfl⟩)
  go_ret;exact ⟨rfl,0,rfl⟩
 ·have ab:(b==0)=false:=by simpa using D
  obtain ⟨x,ex⟩:∃ x:Int,(a.natAbs:Int)=x:=⟨_,rfl⟩
  obtain ⟨y,ey⟩:∃ y:Int,(b.natAbs:Int)=y:=⟨_,rfl⟩
  have hx:0<=x/\x<=9223372036854775808:=by unfold InR at V;omega
  have M:0 < y/\y<=9223372036854775808:=by unfold InR at hb;omega
  have E:Hid ((a.natAbs:Int)=x/\(b.natAbs:Int)=y/\b≠0):=⟨ex,ey,D⟩
  clear ex ey D;by_cases hf:y<=x / 2147483648
  all_goals
   go_enter Tryz.func168,Tryz.ntmps168;go_wp2_with fail
   refine (j_R a x V E.out.1 _).mono ?_;rintro e H ⟨rfl,rfl⟩;go_wp2_with fail
   refine (j_R b y hb E.out.2.1 _).mono ?_;rintro e H ⟨rfl,rfl⟩;go_wp2_with fail
  ·refine (bound_any _ _).mono ?_;rintro e H ⟨rfl,rfl⟩;go_wp2;go_ret;exact ⟨ret_int (q_a a b x y E.out.1 E.out.2.1 E.out.2.2 M.1 hf),0,rfl⟩
  ·obtain ⟨q,I⟩:∃ q:Int,x*4294967296 / y=q:=⟨_,rfl⟩
   obtain ⟨r,J⟩:∃ r:Int,x*4294967296 % y=r:=⟨_,rfl⟩
   have O:0<=r:=by rw [<- J];exact Int.emod_nonneg _ (by omega)
   have U:r < y:=by rw [<- J];exact Int.emod_lt_of_pos _ (by omega)
   have R:0<=q:=by rw [<- I];exact Int.ediv_nonneg (by omega) (by omega)
   have aa:q < 9223372036854775808:=by rw [<- I];exact Int.ediv_lt_of_lt_mul (by omega) (by omega)
   refine (o_g x y q r hx.1 hx.2 M.1 M.2 (by omega) I J _).mono ?_;rintro e w2 ⟨rfl,n,rfl⟩;obtain ⟨m,em⟩:∃ m:Nat,nr q.toNat r.toNat y.toNat=m:=⟨_,rfl⟩
   have hm:m<=9223372036854775808:=by
    have:=r_C q.toNat r.toNat y.toNat
    omega
   have L:Hid (x*4294967296 / y=q/\x*4294967296 % y=r/\nr q.toNat r.toNat y.toNat=m):=⟨I,J,em⟩
   clear I J em;go_wp2_with fail
   refine (i_F q r y m R (by omega) O U M.2 L.out.2.2 _).mono ?_;rintro e w3 ⟨rfl,rfl⟩;go_wp2_with fail
   refine (j_H _ m (by omega) _).mono ?_;rintro e w3 ⟨rfl,rfl⟩;go_wp2;go_ret;refine ⟨ret_int (n_2 a b x y m E.out.1 E.out.2.1 E.out.2.2 ?_),n,rfl⟩;rw [L.out.1,L.out.2.1,L.out.2.2]
end Go.Proofs.YtcpbhhlepdgdkaaGreatDoor.Fx
