/- Long division of two words by one, digit -/
import Derived.Lib.BitFns
import Derived.Test.YtkfpainpomobfaaGreatDoorR02
set_option linter.unusedVariables false
set_option linter.unusedSimpArgs false
set_option maxHeartbeats 16000000
set_option maxRecDepth 16000
namespace Go.Proofs.YtkfpainpomobfaaGreatDoor.Kn
open Go.RowKit List World Nat
variable {Y Y1 Y0 u v : Int}
/-- The dividend's next digit. -/
def dig (u v Y:Int):Int:=(u*4294967296+v) / Y
theorem s_p (A:0 < Y):dig u v Y*Y<=u*4294967296+v:=Int.ediv_mul_le _ (by omega)
theorem f_e (H:0 < Y) (E:0<=u) (A:0<=v):0<=dig u v Y:=Int.ediv_nonneg (by omega) (by omega)
theorem m_C (A:0 < Y) (H:u < Y) (E:v < 4294967296):dig u v Y < 4294967296:=by
 unfold dig;apply Int.ediv_lt_of_lt_mul A;omega
theorem i_i (A:0 < Y) (J:0 < Y1) (O:0<=Y0) (e:Y=Y1*4294967296+Y0) (L:0<=u) (H:0<=v) (E:v < 4294967296):dig u v Y<=u / Y1:=by
 rw [Int.le_ediv_iff_mul_le J];have h:=s_p (u:=u) (v:=v) A;have I:=f_e (Y:=Y) A L H;have M:0<=dig u v Y*Y0:=Int.mul_nonneg I O;rw [e,Int.mul_add,<- Int.mul_assoc] at h;rw [<- e] at h;omega
theorem p_5 (A:2147483648<=Y1) (H:Y0 < 4294967296) (e:Y=Y1*4294967296+Y0) (E:u < Y):u / Y1<=4294967297:=by
 apply Int.le_of_lt_add_one;apply Int.ediv_lt_of_lt_mul (by omega);omega
theorem h_s (q r:Int) (A:0 < Y) (H:u < Y) (E:v < 4294967296) (e:Y=Y1*4294967296+Y0) (I:q*Y1+r=u) (h:4294967296<=q∨4294967296*r+v < q*Y0):dig u v Y < q:=by
 rcases h with h|h
 ·have:=m_C A H E;omega
 ·unfold dig;apply Int.ediv_lt_of_lt_mul A;rw [e,Int.mul_add,<- Int.mul_assoc];omega
theorem h_t (q r:Int) (E:0 < Y) (e:Y=Y1*4294967296+Y0) (H:q*Y1+r=u) (h:q*Y0<=4294967296*r+v) (A:dig u v Y<=q):q=dig u v Y:=by
 apply Int.le_antisymm _ A;unfold dig;rw [Int.le_ediv_iff_mul_le E,e,Int.mul_add,<- Int.mul_assoc];omega
theorem m_D (q r:Int) (M:0 < Y) (L:0<=Y0) (I:Y0 < 4294967296) (O:0<=v) (e:Y=Y1*4294967296+Y0) (H:q*Y1+r=u) (R:4294967296<=r) (J:0<=q) (A:q<=4294967296) (E:dig u v Y<=q):q=dig u v Y:=by
 apply h_t q r M e H _ E;have:q*Y0<=4294967296*Y0:=Int.mul_le_mul_of_nonneg_right A L;omega
theorem h_u (a b:Int):IntKind.u64.wrap (IntKind.u64.wrap a - IntKind.u64.wrap b)=IntKind.u64.wrap (a - b):=by
 simp only [IntKind.wrap_u64];omega
theorem h_v (a b:Int):IntKind.u64.wrap (IntKind.u64.wrap a+b)=IntKind.u64.wrap (a+b):=by
 simp only [IntKind.wrap_u64];omega
theorem j_e (a:Int) (h:0<=a) (A:a < 18446744073709551616):IntKind.u64.wrap a=a:=by
 simp only [IntKind.wrap_u64];omega
theorem m_E (H:0 < Y) (A:Y<=18446744073709551616):
  IntKind.u64.wrap (IntKind.u64.wrap (IntKind.u64.wrap (u*4294967296)+v) - IntKind.u64.wrap (dig u v Y*Y))=(u*4294967296+v) % Y:=by
 rw [h_v,h_u];have h:=Int.emod_add_mul_ediv (u*4294967296+v) Y
 have e:u*4294967296+v - dig u v Y*Y=(u*4294967296+v) % Y:=by
  unfold dig;rw [Int.mul_comm ((u*4294967296+v) / Y) Y];omega
 rw [e];have E:=Int.emod_nonneg (u*4294967296+v) (show Y≠0 by omega);have I:=Int.emod_lt_of_pos (u*4294967296+v) H;exact j_e _ E (by omega)
theorem g_T (A:0 < Y1) (E:Y1 < 4294967296) (I:0<=u) (H:u < 18446744073709551616):
  IntKind.u64.wrap (u - IntKind.u64.wrap (u / Y1*Y1))=u % Y1:=by
 have h:=Int.emod_add_mul_ediv u Y1;have a:=Int.emod_nonneg u (show Y1≠0 by omega);have b:=Int.emod_lt_of_pos u A;rw [Int.mul_comm] at h;simp only [IntKind.wrap_u64];omega
theorem start_eq:u / Y1*Y1+u % Y1=u:=by
 have h:=Int.emod_add_mul_ediv u Y1;rw [Int.mul_comm] at h;omega
theorem p_6 (u v Y:Int):u*4294967296+v=dig u v Y*Y+(u*4294967296+v) % Y:=by
 have h:=Int.emod_add_mul_ediv (u*4294967296+v) Y;unfold dig;rw [Int.mul_comm Y] at h;omega
theorem maskI (a:Int) (h:0<=a) (I:a < 18446744073709551616):bits .and .u64 a 4294967295=a % 4294967296:=by
 have A:∀ n:Int,0<=n->n < 2 ^ 64->IntKind.u64.wrap n=n:=fun n H E=>by rw [IntKind.wrap_u64];omega
 exact bits_mask .u64 64 (by decide) A 32 (by decide) a h (by omega)
theorem o_1 (y:Int) (I:0 < y) (H:y < 18446744073709551616):∃ s:Nat,s < 64/\Hid ((s:Int)=64 - (Lib.bitLen y.toNat:Int))/\9223372036854775808<=y*2 ^ s/\y*2 ^ s < 18446744073709551616:=by
 obtain ⟨n,rfl⟩:=Int.eq_ofNat_of_zero_le (show 0<=y by omega);have hb:=Lib.bitLenAux_bounds 64 n (by omega) (by omega);have E:=Lib.bitLen_le n 64 (by omega) (by omega)
 change 1<=Lib.bitLen n/\2 ^ (Lib.bitLen n - 1)<=n/\n < 2 ^ Lib.bitLen n at hb
 refine ⟨64 - Lib.bitLen n,by omega,by show _=_;simp only [Int.toNat_natCast];omega,?_,?_⟩
 ·have e:2 ^ (Lib.bitLen n - 1)*2 ^ (64 - Lib.bitLen n)=9223372036854775808:=by
   rw [<- Nat.pow_add,show Lib.bitLen n - 1+(64 - Lib.bitLen n)=63 by omega]
  have:=mul_le_mul_right (2 ^ (64 - Lib.bitLen n)) hb.2.1;rw [e] at this;have A:=Int.ofNat_le.2 this;rw [Int.natCast_mul,Int.natCast_pow] at A;exact A
 ·have e:2 ^ Lib.bitLen n*2 ^ (64 - Lib.bitLen n)=18446744073709551616:=by
   rw [<- Nat.pow_add,show Lib.bitLen n+(64 - Lib.bitLen n)=64 by omega]
  have:=Nat.mul_lt_mul_of_pos_right hb.2.2 (Nat.two_pow_pos (64 - Lib.bitLen n));rw [e] at this;have A:=Int.ofNat_lt.2 this;rw [Int.natCast_mul,Int.natCast_pow] at A;exact A
theorem q_5 (E A y:Int) (s:Nat) (hh:E < y) (h0:0 < E) (hy:0 < y) (hs:s < 64) (hY:9223372036854775808<=y*2 ^ s/\y*2 ^ s < 18446744073709551616) (M:0<=A/\A < 18446744073709551616):
  bits .or .u64 (IntKind.u64.wrap (E*2 ^ s)) (A / 2 ^ (64 - s))=E*2 ^ s+A / 2 ^ (64 - s)/\IntKind.u64.wrap (A*2 ^ s)=A*2 ^ s % 18446744073709551616/\
  0<=E*2 ^ s+A / 2 ^ (64 - s)/\E*2 ^ s+A / 2 ^ (64 - s) < y*2 ^ s/\
  (E*18446744073709551616+A)*2 ^ s=(E*2 ^ s+A / 2 ^ (64 - s))*18446744073709551616+A*2 ^ s % 18446744073709551616:=by
 have hP:(0:Int) < 2 ^ s:=Int.pow_pos (by decide);have L:(0:Int) < 2 ^ (64 - s):=Int.pow_pos (by decide)
 have I:(2:Int) ^ (64 - s)*2 ^ s=18446744073709551616:=by
  rw [<- Int.pow_add,show 64 - s+s=64 by omega];rfl
 have H:(2:Int) ^ s*2 ^ (64 - s)=18446744073709551616:=by rw [Int.mul_comm];exact I
 have q0:0<=A / 2 ^ (64 - s):=Int.ediv_nonneg M.1 (by omega);have O:A / 2 ^ (64 - s) < 2 ^ s:=Int.ediv_lt_of_lt_mul L (by rw [H];exact M.2);have hm:(E+1)*2 ^ s<=y*2 ^ s:=Int.mul_le_mul_of_nonneg_right (by omega) (by omega);rw [Int.add_mul] at hm;have hp:0<=E*2 ^ s:=Int.mul_nonneg (by omega) (by omega);have hw:∀ n:Int,0<=n->n < 2 ^ 64->IntKind.u64.wrap n=n:=fun n h0 h1=>by rw [IntKind.wrap_u64];omega
 refine ⟨?_,by rw [IntKind.wrap_u64],by omega,by omega,?_⟩
 ·rw [j_e _ hp (by omega)]
  have J:(2:Int) ^ s<=2 ^ 64:=by
   rw [show (2:Int) ^ 64=18446744073709551616 from rfl,<- H];have:(2:Int) ^ s*1<=2 ^ s*2 ^ (64 - s):=Int.mul_le_mul_of_nonneg_left (by omega) (by omega);omega
  exact bits_join .u64 64 (by decide) hw s _ _ hp (Int.mul_emod_left _ _) (by omega) q0 O (by omega)
 ·have R:=Int.emod_add_mul_ediv A (2 ^ (64 - s));have V:=Int.emod_nonneg A (show (2:Int) ^ (64 - s)≠0 by omega);have Z:=Int.emod_lt_of_pos A L
  have e:A*2 ^ s=A / 2 ^ (64 - s)*18446744073709551616+A % 2 ^ (64 - s)*2 ^ s:=by
   rw [<- I];have:A*2 ^ s=(A % 2 ^ (64 - s)+2 ^ (64 - s)*(A / 2 ^ (64 - s)))*2 ^ s:=by rw [R]
   rw [this,Int.add_mul,Int.mul_comm (2 ^ (64 - s)) (A / 2 ^ (64 - s)),Int.mul_assoc];omega
  have e2:A % 2 ^ (64 - s)*2 ^ s < 2 ^ (64 - s)*2 ^ s:=Int.mul_lt_mul_of_pos_right Z hP;have e3:0<=A % 2 ^ (64 - s)*2 ^ s:=Int.mul_nonneg V (by omega);rw [I] at e2;rw [Int.add_mul,Int.add_mul,Int.mul_assoc E,Int.mul_comm 18446744073709551616 (2 ^ s),<- Int.mul_assoc];omega
theorem g_d (N y P Y U L E A J H:Int) (V:0 < P) (M:Y=y*P) (R:0 < y) (h0:0<=H) (O:H < Y)
  (hN:N*P=U*18446744073709551616+L) (e1:U*4294967296+L / 4294967296=E*Y+J) (e2:J*4294967296+L % 4294967296=A*Y+H):
  N / y=E*4294967296+A/\H / P=N % y:=by
 have hA:N*P=(E*4294967296+A)*Y+H:=by
  rw [Int.add_mul,Int.mul_assoc,Int.mul_comm 4294967296 Y,<- Int.mul_assoc];omega
 have hR:H=(N - (E*4294967296+A)*y)*P:=by
  rw [Int.sub_mul,hA,M,Int.mul_assoc];omega
 have I:H / P=N - (E*4294967296+A)*y:=by
  rw [hR];exact Int.mul_ediv_cancel _ (by omega)
 have Z:0<=N - (E*4294967296+A)*y:=by rw [<- I];exact Int.ediv_nonneg h0 (by omega)
 have p1:N - (E*4294967296+A)*y < y:=by
  rw [<- I];exact Int.ediv_lt_of_lt_mul V (by rw [<- M];exact O)
 have:=(Int.ediv_emod_unique (a:=N) (b:=y) (r:=N - (E*4294967296+A)*y) (q:=E*4294967296+A) R).2 ⟨by rw [Int.mul_comm];omega,Z,p1⟩;exact ⟨this.1,by rw [I,this.2]⟩
end Go.Proofs.YtkfpainpomobfaaGreatDoor.Kn
namespace Go.Proofs.YtkfpainpomobfaaGreatDoor.Fx
open Go.RowKit Kn List World Nat
theorem t_H (y:Int) (s:Nat) (H:0<=y) (E:y < 18446744073709551616) (e:(s:Int)=64 - (Lib.bitLen y.toNat:Int)) (w:World):
  Calls Tryz.prog 214 #[.int .u64 y] w fun e A=>e = .returned (.int .i64 s)/\A=w:=by
 rw [e];exact Tryz.bits_LeadingZeros64 y w (by omega) (by omega)
theorem ret_two {a b c d:Int} (A:a=c) (E:b=d):Ending.returned (.tuple #[.int .u64 a,.int .u64 b]) = .returned (.tuple #[.int .u64 c,.int .u64 d]):=by rw [A,E]
theorem l_g (s:Nat) (hi lo y Y E I U L V1 V0 V R M A B:Int) (hh:hi < y) (h0:0 < hi) (hy:y < 18446744073709551616) (hl:0<=lo/\lo < 18446744073709551616) (hs:s < 64)
  (e:Hid ((s:Int)=64 - (Lib.bitLen y.toNat:Int)))
  (e1:IntKind.u64.wrap (y*2 ^ s)=Y) (hY:9223372036854775808<=Y/\Y < 18446744073709551616)
  (e2:Y / 4294967296=E) (ax:2147483648<=E/\E < 4294967296)
  (e3:bits .and .u64 Y 4294967295=I) (aA:0<=I/\I < 4294967296) (H:Hid (Y=E*4294967296+I))
  (e4:bits .or .u64 (IntKind.u64.wrap (hi*2 ^ s)) (lo / 2 ^ (64 - s))=U) (hU:0<=U/\U < Y)
  (e5:IntKind.u64.wrap (lo*2 ^ s)=L) (hL:0<=L/\L < 18446744073709551616)
  (e6:L / 4294967296=V1) (aC:0<=V1/\V1 < 4294967296)
  (e7:bits .and .u64 L 4294967295=V0) (az:0<=V0/\V0 < 4294967296)
  (au:0<=V/\V < 4294967296) (ac:Hid (V=dig U V1 Y))
  (e9:IntKind.u64.wrap (IntKind.u64.wrap (IntKind.u64.wrap (U*4294967296)+V1) - IntKind.u64.wrap (V*Y))=R) (av:0<=R/\R < Y)
  (aD:0<=M/\M < 4294967296) (ae:Hid (M=dig R V0 Y))
  (eA:Hid (V*4294967296+M=A)) (eB:Hid (IntKind.u64.wrap (IntKind.u64.wrap (IntKind.u64.wrap (R*4294967296)+V0) - IntKind.u64.wrap (M*Y)) / 2 ^ s=B))
  (w:World):
  Calls Tryz.prog 191 #[.int .u64 hi,.int .u64 lo,.int .u64 y] w fun e w'=>e = .returned (.tuple #[.int .u64 A,.int .u64 B])/\w'=w:=by
 go_enter Tryz.func191,Tryz.ntmps191;go_wp2_with (go_at_call 214;refine (t_H y s (by omega) hy e.out _).mono ?_;rintro e w' ⟨rfl,rfl⟩)
 clear e1 e2 e3 e4 e5 e6 e7
 go_loop [15,16] (fun q r=>∃ qn rn:Int,q = .int .u64 qn/\r = .int .u64 rn/\Hid (qn*E+rn=U)/\V<=qn/\qn<=4294967297/\0<=rn/\rn < 4294967296) (fun q _=>(intOf q).toNat)
 case atStart=>
  have a:=Int.emod_nonneg U (show E≠0 by omega);have b:=Int.emod_lt_of_pos U (show 0 < E by omega);exact ⟨U / E,U % E,rfl,by rw [g_T (by omega) (by omega) (by omega) (by omega)],Kn.start_eq,by rw [ac.out];exact i_i (by omega) (by omega) (by omega) H.out (by omega) (by omega) (by omega),p_5 (by omega) (by omega) H.out (by omega),a,by omega⟩
 case round=>
  obtain ⟨q,r,rfl,rfl,aa,af,an,aq,ap⟩:=hrel;clear ‹w'=w'›;have aj:0<=q*I:=Int.mul_nonneg (by omega) (by omega);by_cases ab:(4294967296<=q∨4294967296*r+V1 < q*I)/\r+E < 4294967296
  ·obtain ⟨Z,ao⟩:=ab;have ad:V < q:=by rw [ac.out];exact h_s q r (by omega) (by omega) (by omega) H.out aa.out Z
   have am:Hid ((q - 1)*E+(r+E)=U):=by have:=aa.out;show (q - 1)*E+(r+E)=U;rw [Int.sub_mul];omega
   by_cases hb:4294967296<=q
   ·clear Z;go_wp2
    go_round
    case rel=>exact ⟨q - 1,r+E,rfl,rfl,am,by omega,by omega,by omega,by omega⟩
    case measure=>simp [intOf];omega
   ·have J:q*I<=4294967295*4294967295:=Int.mul_le_mul (by omega) (by omega) (by omega) (by omega);have ar:4294967296*r+V1 < q*I:=by omega
    clear Z;go_wp2
    go_round
    case rel=>exact ⟨q - 1,r+E,rfl,rfl,am,by omega,by omega,by omega,by omega⟩
    case measure=>simp [intOf];omega
  ·have ag:(4294967296<=q/\4294967296<=r+E/\q - 1=V)∨(q < 4294967296/\4294967296*r+V1 < q*I/\4294967296<=r+E/\q - 1=V)∨(q < 4294967296/\q*I<=4294967296*r+V1/\0<=r/\q=V):=by
    by_cases Z:4294967296<=q∨4294967296*r+V1 < q*I
    ·have ad:V < q:=by rw [ac.out];exact h_s q r (by omega) (by omega) (by omega) H.out aa.out Z
     have hp:0<=q - 1:=by omega
     have hq:q - 1=V:=by
      rw [ac.out] at ad ⊢;exact m_D (q - 1) (r+E) (by omega) (by omega) (by omega) (by omega) H.out (by have:=aa.out;rw [Int.sub_mul];omega) (by omega) hp (by omega) (by omega)
     omega
    ·have hq:q=V:=by
      rw [ac.out] at af ⊢;exact h_t q r (by omega) H.out aa.out (by omega) af
     omega
   clear ab;have J:q < 4294967296->q*I<=4294967295*4294967295:=fun h=>Int.mul_le_mul (by omega) (by omega) (by omega) (by omega);clear aa af;have ai:∀ q r:Int,Hid (q*E+r=R)->4294967296<=q∨4294967296*r+V0 < q*I->M < q:=fun q r h Z=>by rw [ae.out];exact h_s q r (by omega) (by omega) (by omega) H.out h.out Z
   rcases ag with ⟨x1,x2,x3⟩|⟨x1,x2,x3,x4⟩|⟨x1,x2,x3,rfl⟩
   all_goals
    have ak:q*I<=4294967295*4294967295∨4294967296<=q:=by
     by_cases hz:q < 4294967296
     ·exact Or.inl (J hz)
     ·omega
    clear J;go_wp2
    go_loop [18,16] (fun q r=>∃ qn rn:Int,q = .int .u64 qn/\r = .int .u64 rn/\Hid (qn*E+rn=R)/\M<=qn/\qn<=4294967297/\0<=rn/\rn < 4294967296) (fun q _=>(intOf q).toNat)
    case atStart=>
     have a:=Int.emod_nonneg R (show E≠0 by omega);have b:=Int.emod_lt_of_pos R (show 0 < E by omega);exact ⟨R / E,R % E,rfl,by rw [g_T (by omega) (by omega) (by omega) (by omega)],Kn.start_eq,by rw [ae.out];exact i_i (by omega) (by omega) (by omega) H.out (by omega) (by omega) (by omega),p_5 (by omega) (by omega) H.out (by omega),a,by omega⟩
    case round=>
     clear x1 x2 x3 aj ak an aq ap
     try clear x4
     obtain ⟨p,t,rfl,rfl,O,ah,aB,aw,ay⟩:=hrel;clear ‹w'=w'›;have aj:0<=p*I:=Int.mul_nonneg (by omega) (by omega);by_cases ab:(4294967296<=p∨4294967296*t+V0 < p*I)/\t+E < 4294967296
     ·obtain ⟨Z,ao⟩:=ab;have ad:M < p:=ai p t O Z;have al:Hid ((p - 1)*E+(t+E)=R):=by have:=O.out;show (p - 1)*E+(t+E)=R;rw [Int.sub_mul];omega
      by_cases hb:4294967296<=p
      ·clear Z;go_wp2
       go_round
       case rel=>exact ⟨p - 1,t+E,rfl,rfl,al,by omega,by omega,by omega,by omega⟩
       case measure=>simp [intOf];omega
      ·have J:p*I<=4294967295*4294967295:=Int.mul_le_mul (by omega) (by omega) (by omega) (by omega);have ar:4294967296*t+V0 < p*I:=by omega
       clear Z;go_wp2
       go_round
       case rel=>exact ⟨p - 1,t+E,rfl,rfl,al,by omega,by omega,by omega,by omega⟩
       case measure=>simp [intOf];omega
     ·have ag:(4294967296<=p/\4294967296<=t+E/\p - 1=M)∨(p < 4294967296/\4294967296*t+V0 < p*I/\4294967296<=t+E/\p - 1=M)∨(p < 4294967296/\p*I<=4294967296*t+V0/\0<=t/\p=M):=by
       by_cases Z:4294967296<=p∨4294967296*t+V0 < p*I
       ·have ad:M < p:=ai p t O Z;have hp:0<=p - 1:=by omega
        have hq:p - 1=M:=by
         rw [ae.out] at ad ⊢;exact m_D (p - 1) (t+E) (by omega) (by omega) (by omega) (by omega) H.out (by have:=O.out;rw [Int.sub_mul];omega) (by omega) hp (by omega) (by omega)
        omega
       ·have hq:p=M:=by
         rw [ae.out] at ah ⊢;exact h_t p t (by omega) H.out O.out (by omega) ah
        omega
      clear ab;have J:p < 4294967296->p*I<=4294967295*4294967295:=fun h=>Int.mul_le_mul (by omega) (by omega) (by omega) (by omega);clear O ah ai;rcases ag with ⟨x1,x2,x3⟩|⟨x1,x2,x3,x4⟩|⟨x1,x2,x3,rfl⟩
      all_goals
       have ak:p*I<=4294967295*4294967295∨4294967296<=p:=by
        by_cases hz:p < 4294967296
        ·exact Or.inl (J hz)
        ·omega
       clear J;go_wp2;go_ret2;exact ⟨ret_two eA.out eB.out,rfl⟩
/-- Wherever the quotient fits one word, and the dividend's high word is not 0. -/
theorem m_F (E A y:Int) (hh:E < y) (h0:0 < E) (hy:y < 18446744073709551616) (hl:0<=A/\A < 18446744073709551616) (w:World):
  Calls Tryz.prog 191 #[.int .u64 E,.int .u64 A,.int .u64 y] w fun e w'=>e = .returned (.tuple #[.int .u64 ((E*18446744073709551616+A) / y),.int .u64 ((E*18446744073709551616+A) % y)])/\w'=w:=by
 obtain ⟨s,hs,es,hY⟩:=o_1 y (by omega) hy;obtain ⟨j1,j2,j3,j4,j5⟩:=q_5 E A y s hh h0 (by omega) hs hY hl;have V:(y*2 ^ s)=(y*2 ^ s) / 4294967296*4294967296+(y*2 ^ s) % 4294967296:=by omega
 generalize eY:y*2 ^ s=Y at *;generalize eU:E*2 ^ s+A / 2 ^ (64 - s)=U at *;generalize eL:A*2 ^ s % 18446744073709551616=L at *;have hL:0<=L/\L < 18446744073709551616:=by omega
 have J:=f_e (Y:=Y) (u:=U) (v:=L / 4294967296) (by omega) (by omega) (by omega);have M:=m_C (Y:=Y) (u:=U) (v:=L / 4294967296) (by omega) (by omega) (by omega);have af:=Int.emod_nonneg (U*4294967296+L / 4294967296) (show Y≠0 by omega);have ae:=Int.emod_lt_of_pos (U*4294967296+L / 4294967296) (show 0 < Y by omega);have ad:=p_6 U (L / 4294967296) Y;have O:=m_E (Y:=Y) (u:=U) (v:=L / 4294967296) (by omega) (by omega);generalize eR:(U*4294967296+L / 4294967296) % Y=R at *;have H:=f_e (Y:=Y) (u:=R) (v:=L % 4294967296) (by omega) (by omega) (by omega);have aa:=m_C (Y:=Y) (u:=R) (v:=L % 4294967296) (by omega) (by omega) (by omega);have ac:=Int.emod_nonneg (R*4294967296+L % 4294967296) (show Y≠0 by omega);have I:=Int.emod_lt_of_pos (R*4294967296+L % 4294967296) (show 0 < Y by omega);have ab:=p_6 R (L % 4294967296) Y;have Z:=m_E (Y:=Y) (u:=R) (v:=L % 4294967296) (by omega) (by omega);have hP:(0:Int) < 2 ^ s:=Int.pow_pos (by decide);obtain ⟨f1,f2⟩:=g_d (E*18446744073709551616+A) y (2 ^ s) Y U L (dig U (L / 4294967296) Y) (dig R (L % 4294967296) Y) R ((R*4294967296+L % 4294967296) % Y) hP eY.symm (by omega) ac I j5 ad ab
 exact l_g s E A y Y (Y / 4294967296) (Y % 4294967296) U L (L / 4294967296) (L % 4294967296) (dig U (L / 4294967296) Y) R (dig R (L % 4294967296) Y) _ _ hh h0 hy hl hs es
  (by rw [eY];exact j_e Y (by omega) (by omega)) hY rfl (by omega) (maskI Y (by omega) (by omega)) (by omega) V j1 (by omega) j2 hL rfl (by omega) (maskI L (by omega) (by omega)) (by omega) ⟨J,M⟩ rfl O (by omega) ⟨H,aa⟩ rfl f1.symm (by show _ / _=_;rw [Z,f2]) w
theorem j_f (A y:Int) (H:0 < y) (I:y < 18446744073709551616) (J:0<=A/\A < 18446744073709551616) (w:World):
  Calls Tryz.prog 191 #[.int .u64 0,.int .u64 A,.int .u64 y] w fun e E=>e = .returned (.tuple #[.int .u64 (A / y),.int .u64 (A % y)])/\∃ n,E=w.drewN n:=by
 go_enter Tryz.func191,Tryz.ntmps191;go_wp2_with fail
 go_quiet (fail)
 go_wp2;go_ret2;exact ⟨rfl,_,rfl⟩
theorem m_G (E A y:Int) (M:0<=E) (J:E < y) (H:y < 18446744073709551616) (L:0<=A/\A < 18446744073709551616) (w:World):
  Calls Tryz.prog 191 #[.int .u64 E,.int .u64 A,.int .u64 y] w fun e I=>e = .returned (.tuple #[.int .u64 ((E*18446744073709551616+A) / y),.int .u64 ((E*18446744073709551616+A) % y)])/\∃ n,I=w.drewN n:=by
 by_cases h:E=0
 ·subst h;rw [Int.zero_mul,Int.zero_add];exact j_f A y J H L w
 ·exact (m_F E A y J (by omega) H L w).mono fun e I ⟨O,R⟩=>⟨O,0,R⟩
theorem o_2 (x y q r:Int) (O:0<=x) (J:x<=9223372036854775808) (M:0 < y) (I:y<=9223372036854775808) (E:x / 4294967296 < y) (A:x*4294967296 / y=q) (H:x*4294967296 % y=r) (w:World):
  Calls Tryz.prog 191 #[.int .u64 (x / 4294967296),.int .u64 (IntKind.u64.wrap (x*4294967296)),.int .u64 y] w fun e L=>e = .returned (.tuple #[.int .u64 q,.int .u64 r])/\∃ n,L=w.drewN n:=by
 have c:=m_G (x / 4294967296) (x*4294967296 % 18446744073709551616) y (by omega) E (by omega) (by omega) w;rw [show x / 4294967296*18446744073709551616+x*4294967296 % 18446744073709551616=x*4294967296 by omega,A,H] at c;rw [IntKind.wrap_u64];exact c
theorem k_e (a x:Int) (H:InR a) (A:(a.natAbs:Int)=x) (w:World):
  Calls Tryz.prog 177 #[.int .i64 a] w fun e E=>e = .returned (.int .u64 x)/\E=w:=by
 subst A;exact size_any a _ H rfl w
theorem j_g (q r d:Int) (m:Nat) (E:0<=q) (L:q < 18446744073709551615) (A:0<=r) (M:r < d) (J:d<=9223372036854775808) (H:nr q.toNat r.toNat d.toNat=m) (w:World):
  Calls Tryz.prog 208 #[.int .u64 q,.int .u64 r,.int .u64 d] w fun e I=>e = .returned (.int .u64 m)/\I=w:=by
 subst H;obtain ⟨q,rfl⟩:=Int.eq_ofNat_of_zero_le E;obtain ⟨r,rfl⟩:=Int.eq_ofNat_of_zero_le A;obtain ⟨d,rfl⟩:=Int.eq_ofNat_of_zero_le (show 0<=d by omega);exact g_b q r d (by omega) (by omega) (by omega) w
theorem o_3 (a:Int) (w:World):
  Calls Tryz.prog 212 #[.int .i64 a] w fun e A=>e = .returned (.int .i64 (l_7 a))/\A=w:=by
 by_cases h:a=0
 ·subst h;go_enter Tryz.func212,Tryz.ntmps212;go_wp2;go_ret;exact ⟨rfl,rfl⟩
 ·have E:(a==0)=false:=by simpa using h
  go_enter Tryz.func212,Tryz.ntmps212;go_wp2_with (go_at_call 175;refine (bound_any _ _).mono ?_;rintro e A ⟨rfl,rfl⟩)
  go_ret;exact ⟨ret_int (o_E a h),rfl⟩
theorem m_H (a b:Int) (Z:InR a) (hb:InR b) (w:World):
  Calls Tryz.prog 188 #[.int .i64 a,.int .i64 b] w fun e J=>e = .returned (.int .i64 (k_2 a b))/\∃ n,J=w.drewN n:=by
 by_cases A:b=0
 ·subst A;go_enter Tryz.func188,Tryz.ntmps188;go_wp2_with (go_at_call 212;refine (o_3 _ _).mono ?_;rintro e J ⟨rfl,rfl⟩)
  go_ret;exact ⟨rfl,0,rfl⟩
 ·have aa:(b==0)=false:=by simpa using A
  obtain ⟨x,ex⟩:∃ x:Int,(a.natAbs:Int)=x:=⟨_,rfl⟩
  obtain ⟨y,ey⟩:∃ y:Int,(b.natAbs:Int)=y:=⟨_,rfl⟩
  have hx:0<=x/\x<=9223372036854775808:=by unfold InR at Z;omega
  have M:0 < y/\y<=9223372036854775808:=by unfold InR at hb;omega
  have E:Hid ((a.natAbs:Int)=x/\(b.natAbs:Int)=y/\b≠0):=⟨ex,ey,A⟩
  clear ex ey A;by_cases hf:y<=x / 2147483648
  all_goals
   go_enter Tryz.func188,Tryz.ntmps188;go_wp2_with fail
   refine (k_e a x Z E.1 _).mono ?_;rintro e J ⟨rfl,rfl⟩;go_wp2_with fail
   refine (k_e b y hb E.2.1 _).mono ?_;rintro e J ⟨rfl,rfl⟩;go_wp2_with fail
  ·refine (bound_any _ _).mono ?_;rintro e J ⟨rfl,rfl⟩;go_wp2;go_ret;exact ⟨ret_int (q_L a b x y E.1 E.2.1 E.2.2 M.1 hf),0,rfl⟩
  ·obtain ⟨q,I⟩:∃ q:Int,x*4294967296 / y=q:=⟨_,rfl⟩
   obtain ⟨r,H⟩:∃ r:Int,x*4294967296 % y=r:=⟨_,rfl⟩
   have O:0<=r:=by rw [<- H];exact Int.emod_nonneg _ (by omega)
   have V:r < y:=by rw [<- H];exact Int.emod_lt_of_pos _ (by omega)
   have R:0<=q:=by rw [<- I];exact Int.ediv_nonneg (by omega) (by omega)
   have ab:q < 9223372036854775808:=by rw [<- I];exact Int.ediv_lt_of_lt_mul (by omega) (by omega)
   refine (o_2 x y q r hx.1 hx.2 M.1 M.2 (by omega) I H _).mono ?_;rintro e w2 ⟨rfl,n,rfl⟩;obtain ⟨m,em⟩:∃ m:Nat,nr q.toNat r.toNat y.toNat=m:=⟨_,rfl⟩
   have hm:m<=9223372036854775808:=by
    have:=s_b q.toNat r.toNat y.toNat
    omega
   have L:Hid (x*4294967296 / y=q/\x*4294967296 % y=r/\nr q.toNat r.toNat y.toNat=m):=⟨I,H,em⟩
   clear I H em;go_wp2_with fail
   refine (j_g q r y m R (by omega) O V M.2 L.2.2 _).mono ?_;rintro e w3 ⟨rfl,rfl⟩;go_wp2_with fail
   refine (j_5 _ m (by omega) _).mono ?_;rintro e w3 ⟨rfl,rfl⟩;go_wp2;go_ret;refine ⟨ret_int (o_F a b x y m E.1 E.2.1 E.2.2 ?_),n,rfl⟩;rw [L.1,L.2.1,L.2.2]
end Go.Proofs.YtkfpainpomobfaaGreatDoor.Fx
