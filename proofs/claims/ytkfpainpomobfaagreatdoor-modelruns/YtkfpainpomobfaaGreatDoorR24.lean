/- Bits of numbers of four words: plain ari -/
import Derived.Test.YtkfpainpomobfaaGreatDoorR23
set_option linter.unusedVariables false
set_option linter.unusedSimpArgs false
set_option maxHeartbeats 16000000
set_option maxRecDepth 16000
namespace Go.Proofs.YtkfpainpomobfaaGreatDoor.Rf
open Go.RowKit Fx List World Nat
theorem b_E (n:Nat):(0:Int) < 2 ^ n:=Int.pow_pos (by decide)
theorem h_E (a H:Int) (r:Nat) (A:r < 64):(a+18446744073709551616*H) / 2 ^ r % 2=a / 2 ^ r % 2:=by
 have e:(18446744073709551616:Int)=2 ^ r*(2*2 ^ (63 - r)):=by
  rw [show (18446744073709551616:Int)=2 ^ 64 from rfl,show 64=r+(1+(63 - r)) by omega,Int.pow_add,Int.pow_add];rfl
 rw [e,Int.mul_assoc,Int.add_mul_ediv_left _ _ (Int.ne_of_gt (b_E r)),Int.mul_assoc];omega
theorem d_f (x:Int) (e r:Nat):x / 2 ^ (e+r)=x / 2 ^ e / 2 ^ r:=by
 have h:=b_E e;rw [Int.pow_add,Int.ediv_ediv,if_neg (fun c=>by omega),Int.sub_zero]
/-- Which word a bit lies in. -/
theorem b_z (I H E A:Int) (R:U I) (M:U H) (O:U E) (L:U A) (r:Nat) (J:r < 64):
  PS 4 I H E A / 2 ^ (64*0+r) % 2=I / 2 ^ r % 2/\PS 4 I H E A / 2 ^ (64*1+r) % 2=H / 2 ^ r % 2/\
  PS 4 I H E A / 2 ^ (64*2+r) % 2=E / 2 ^ r % 2/\PS 4 I H E A / 2 ^ (64*3+r) % 2=A / 2 ^ r % 2:=by
 unfold U at *;rw [PS4];refine ⟨?_,?_,?_,?_⟩
 ·rw [d_f,<- h_E I (H+E*18446744073709551616+A*340282366920938463463374607431768211456) r J]
  congr 2
  show _ / 1=_;omega
 ·rw [d_f,<- h_E H (E+A*18446744073709551616) r J]
  congr 2
  show _ / 18446744073709551616=_;omega
 ·rw [d_f,<- h_E E A r J]
  congr 2
  show _ / 340282366920938463463374607431768211456=_;omega
 ·rw [d_f,<- h_E A 0 r J]
  congr 2
  show _ / 6277101735386680763835789423207666416102355444464034512896=_;omega
theorem q_n (a t:Nat) (h:a / 2 ^ t % 2=0):a ||| 2 ^ t=a+2 ^ t:=by
 have hp:=Nat.two_pow_pos t;have O:=mod_lt a hp;have H:=div_add_mod a (2 ^ t);have I:a / 2 ^ t=2*(a / 2 ^ t / 2):=by omega
 have M:2 ^ (t+1)=2 ^ t*2:=Nat.pow_succ 2 t
 have J:a=2 ^ (t+1)*(a / 2 ^ t / 2)+a % 2 ^ t:=by
  rw [M,Nat.mul_assoc,<- I,H]
 have L:2 ^ (t+1)*(a / 2 ^ t / 2)+a % 2 ^ t=2 ^ (t+1)*(a / 2 ^ t / 2) ||| a % 2 ^ t:=two_pow_add_eq_or_of_lt (by omega) _;have A:2 ^ t*1+a % 2 ^ t=2 ^ t*1 ||| a % 2 ^ t:=two_pow_add_eq_or_of_lt O 1;have E:2 ^ (t+1)*(a / 2 ^ t / 2)+(2 ^ t*1+a % 2 ^ t)=2 ^ (t+1)*(a / 2 ^ t / 2) ||| (2 ^ t*1+a % 2 ^ t):=two_pow_add_eq_or_of_lt (by omega) _;rw [A,Nat.mul_one] at E
 have:a ||| 2 ^ t=2 ^ (t+1)*(a / 2 ^ t / 2) ||| (2 ^ t ||| a % 2 ^ t):=by
  conv=>lhs;rw [J,L,Nat.or_assoc,Nat.or_comm (a % 2 ^ t)]
 rw [Nat.mul_one] at A;rw [this,<- E,<- A];omega
theorem d_k (a:Int) (t:Nat) (E:U a) (I:t < 64) (h:a / 2 ^ t % 2=0):bits .or .u64 a (2 ^ t)=a+2 ^ t/\U (a+2 ^ t):=by
 obtain ⟨n,rfl⟩:=Int.eq_ofNat_of_zero_le E.1;have H:n < 18446744073709551616:=by have:=E.2;omega
 have A:2 ^ t < 18446744073709551616:=by
  rw [show 18446744073709551616=2 ^ 64 from rfl];exact Nat.pow_lt_pow_right (by decide) I
 have hb:n / 2 ^ t % 2=0:=by
  have c:((n / 2 ^ t % 2:Nat):Int)=(n:Int) / 2 ^ t % 2:=by
   rw [Int.natCast_emod,Int.natCast_ediv,Int.natCast_pow];rfl
  omega
 have L:((2:Int) ^ t)=((2 ^ t:Nat):Int):=by rw [Int.natCast_pow];rfl
 have J:n ||| 2 ^ t < 2 ^ 64:=or_lt_two_pow (by omega) (by omega);rw [L,bits_or_u64_nat n (2 ^ t) H A,q_n n t hb];rw [q_n n t hb] at J;refine ⟨by rw [Int.natCast_add],?_⟩;have hp:=b_E t;unfold U;omega
theorem b_I (t:Nat) (A:t < 64):IntKind.u64.wrap (2 ^ t)=2 ^ t:=by
 have H:((2:Int) ^ t)=((2 ^ t:Nat):Int):=by rw [Int.natCast_pow];rfl
 have E:2 ^ t < 18446744073709551616:=by
  rw [show 18446744073709551616=2 ^ 64 from rfl];exact Nat.pow_lt_pow_right (by decide) A
 have hp:=b_E t;rw [IntKind.wrap_u64];omega
/-- A number's part from bit k on. -/
def hp (x:Int) (k:Nat):Int:=x / 2 ^ k*2 ^ k
theorem g_q (x:Int) (k:Nat):hp x k=hp x (k+1)+x / 2 ^ k % 2*2 ^ k:=by
 unfold hp;rw [d_f,show (2:Int) ^ (k+1)=2 ^ k*2 from Int.pow_succ 2 k];generalize x / 2 ^ k=y;show y*2 ^ k=y / 2 ^ 1*(2 ^ k*2)+y % 2*2 ^ k;rw [show (2:Int) ^ 1=2 from rfl,Int.mul_comm (2 ^ k) 2,<- Int.mul_assoc,<- Int.add_mul]
 congr 1
 omega
theorem k_J (x:Int) (k:Nat):hp x (k+1) / 2 ^ k % 2=0:=by
 unfold hp;rw [show (2:Int) ^ (k+1)=2*2 ^ k by rw [Int.pow_succ,Int.mul_comm],<- Int.mul_assoc,Int.mul_ediv_cancel _ (Int.ne_of_gt (b_E k))];omega
theorem n_X (A H I E:Int) (M:U A) (L:U H) (Z:U I) (R:U E) (i:Nat) (hi:i < 256) (J bt:Int) (ei:J=(i:Int)) (eb:bt=PS 4 A H I E / 2 ^ i % 2) (w:World):
  Calls Tryz.prog 135 #[.agg #[.int .u64 A,.int .u64 H,.int .u64 I,.int .u64 E],.int .i64 J] w fun e w'=>e = .returned (.int .u64 bt)/\Below w.heap.size w w':=by
 have V:i % 64 < 64:=by omega
 obtain ⟨l0,l1,l2,l3⟩:=b_z A H I E M L Z R (i % 64) V;have O:i / 64=0∨i / 64=1∨i / 64=2∨i / 64=3:=by omega
 rcases O with O|O|O|O
 ·rw [show 64*0+i % 64=i by omega] at l0;rw [eb,l0];exact k_G 0 (by omega) A H I E J A (i % 64) M L Z R V (by omega) rfl w
 ·rw [show 64*1+i % 64=i by omega] at l1;rw [eb,l1];exact k_G 1 (by omega) A H I E J H (i % 64) M L Z R V (by omega) rfl w
 ·rw [show 64*2+i % 64=i by omega] at l2;rw [eb,l2];exact k_G 2 (by omega) A H I E J I (i % 64) M L Z R V (by omega) rfl w
 ·rw [show 64*3+i % 64=i by omega] at l3;rw [eb,l3];exact k_G 3 (by omega) A H I E J E (i % 64) M L Z R V (by omega) rfl w
attribute [local go_sem] a_Y b_f
/-- Block b holds a sign and four words; below B all is as it was. -/
structure Mem (B:Nat) (W2:World) (b:Nat) (s:Bool) (r0 r1 r2 r3:Int) (wr:World):Prop where
 below:Below B W2 wr
 le:B<=b
 lt:b < wr.heap.size
 c0:wr.cell? ⟨b,0,none⟩=some (.bool s)
 c1:wr.cell? ⟨b,1,none⟩=some (.int .u64 r0)
 c2:wr.cell? ⟨b,2,none⟩=some (.int .u64 r1)
 c3:wr.cell? ⟨b,3,none⟩=some (.int .u64 r2)
 c4:wr.cell? ⟨b,4,none⟩=some (.int .u64 r3)
 fz:∀ o,wr.frozen? ⟨b,o,none⟩=false
 u0:U r0
 u1:U r1
 u2:U r2
 u3:U r3
theorem Mem.up {B:Nat} {L wr H:World} {b:Nat} {s:Bool} {I J M O:Int} (h:Mem B L b s I J M O wr) (hb:Below wr.heap.size wr H):Mem B L b s I J M O H:=by
 obtain ⟨E,hf⟩:=bcell hb;have V:wr.heap.size<=H.heap.size:=hb.size;have R:=h.le;have A:=h.lt;exact ⟨h.below.trans (hb.mono (by omega)),h.le,by omega,by rw [E _ _ A];exact h.c0,by rw [E _ _ A];exact h.c1,by rw [E _ _ A];exact h.c2,by rw [E _ _ A];exact h.c3,by rw [E _ _ A];exact h.c4,fun o=>by rw [hf _ _ A];exact h.fz o,h.u0,h.u1,h.u2,h.u3⟩
theorem Mem.set0 {B:Nat} {H wr:World} {b:Nat} {s:Bool} {L E I A v:Int} (h:Mem B H b s L E I A wr) (J:U v):Mem B H b s v E I A (wr.setCell ⟨b,1,none⟩ (.int .u64 v)):=
 ⟨h.below.setCell h.le _,h.le,by rw [size_setCell];exact h.lt,by rw [set_off (by omega)];exact h.c0,set_same h.c1,by rw [set_off (by omega)];exact h.c2,by rw [set_off (by omega)];exact h.c3,by rw [set_off (by omega)];exact h.c4,fun o=>by rw [frozen?_setCell];exact h.fz o,J,h.u1,h.u2,h.u3⟩
theorem Mem.set1 {B:Nat} {H wr:World} {b:Nat} {s:Bool} {A L I E v:Int} (h:Mem B H b s A L I E wr) (J:U v):Mem B H b s A v I E (wr.setCell ⟨b,2,none⟩ (.int .u64 v)):=
 ⟨h.below.setCell h.le _,h.le,by rw [size_setCell];exact h.lt,by rw [set_off (by omega)];exact h.c0,by rw [set_off (by omega)];exact h.c1,set_same h.c2,by rw [set_off (by omega)];exact h.c3,by rw [set_off (by omega)];exact h.c4,fun o=>by rw [frozen?_setCell];exact h.fz o,h.u0,J,h.u2,h.u3⟩
theorem Mem.set2 {B:Nat} {I wr:World} {b:Nat} {s:Bool} {A H L E v:Int} (h:Mem B I b s A H L E wr) (J:U v):Mem B I b s A H v E (wr.setCell ⟨b,3,none⟩ (.int .u64 v)):=
 ⟨h.below.setCell h.le _,h.le,by rw [size_setCell];exact h.lt,by rw [set_off (by omega)];exact h.c0,by rw [set_off (by omega)];exact h.c1,by rw [set_off (by omega)];exact h.c2,set_same h.c3,by rw [set_off (by omega)];exact h.c4,fun o=>by rw [frozen?_setCell];exact h.fz o,h.u0,h.u1,J,h.u3⟩
theorem Mem.set3 {B:Nat} {H wr:World} {b:Nat} {s:Bool} {A E I L v:Int} (h:Mem B H b s A E I L wr) (J:U v):Mem B H b s A E I v (wr.setCell ⟨b,4,none⟩ (.int .u64 v)):=
 ⟨h.below.setCell h.le _,h.le,by rw [size_setCell];exact h.lt,by rw [set_off (by omega)];exact h.c0,by rw [set_off (by omega)];exact h.c1,by rw [set_off (by omega)];exact h.c2,by rw [set_off (by omega)];exact h.c3,set_same h.c4,fun o=>by rw [frozen?_setCell];exact h.fz o,h.u0,h.u1,h.u2,J⟩
theorem h_F {E I J H z y:Int} (h:Hid (PS 4 E I J H=z)) (A m:Nat) (L:m=64*0+A) (M:y=z+2 ^ m):Hid (PS 4 (E+2 ^ A) I J H=y):=by
 have O:=h.out;show PS 4 (E+2 ^ A) I J H=y;rw [M,<- O,PS4,PS4,L,Int.pow_add];generalize (2:Int) ^ A=P;show _=_+1*P;omega
theorem h_G {E I J H z y:Int} (h:Hid (PS 4 E I J H=z)) (A m:Nat) (L:m=64*1+A) (M:y=z+2 ^ m):Hid (PS 4 E (I+2 ^ A) J H=y):=by
 have O:=h.out;show PS 4 E (I+2 ^ A) J H=y;rw [M,<- O,PS4,PS4,L,Int.pow_add];generalize (2:Int) ^ A=P;show _=_+18446744073709551616*P;omega
theorem h_H {E I J H z y:Int} (h:Hid (PS 4 E I J H=z)) (A m:Nat) (L:m=64*2+A) (M:y=z+2 ^ m):Hid (PS 4 E I (J+2 ^ A) H=y):=by
 have O:=h.out;show PS 4 E I (J+2 ^ A) H=y;rw [M,<- O,PS4,PS4,L,Int.pow_add];generalize (2:Int) ^ A=P;show _=_+340282366920938463463374607431768211456*P;omega
theorem h_I {E I J H z y:Int} (h:Hid (PS 4 E I J H=z)) (A m:Nat) (L:m=64*3+A) (M:y=z+2 ^ m):Hid (PS 4 E I J (H+2 ^ A)=y):=by
 have O:=h.out;show PS 4 E I J (H+2 ^ A)=y;rw [M,<- O,PS4,PS4,L,Int.pow_add];generalize (2:Int) ^ A=P;show _=_+6277101735386680763835789423207666416102355444464034512896*P;omega
theorem r_N (x:Int) (n m:Nat) (h:n<=m):x*2 ^ n / 2 ^ m % 2=x / 2 ^ (m - n) % 2:=by
 rw [show m=n+(m - n) by omega,d_f,Int.mul_ediv_cancel _ (Int.ne_of_gt (b_E n)),show n+(m - n) - n=m - n by omega]
theorem j_x (s:Bool) (a0 a1 a2 a3:Int) (p0:U a0) (p1:U a1) (p2:U a2) (p3:U a3) (n:Nat) (hn:n < 256) (nn:Int) (en:Hid (nn=(n:Int))) (aw:0<=nn/\nn < 256) (X:Int) (hX:Hid (X=PS 4 a0 a1 a2 a3*2 ^ n)) (ap:Hid (hp X 256=0)) (w:World):
  Calls Tryz.prog 167 #[.agg #[.bool s,.int .u64 a0,.int .u64 a1,.int .u64 a2,.int .u64 a3],.int .i64 nn] w fun e w'=>∃ v,e = .returned v/\IsN v s (hp X n)/\Below w.heap.size w w':=by
 go_enter Tryz.func167,Tryz.ntmps167;go_wp2
 go_loopw [6] (fun v wr=>∃ (j:Nat) (i r0 r1 Z r3:Int),v = .int .i64 i/\Hid (i+1=(j:Int))/\n<=j/\j<=256/\nn<=i+1/\i < 256/\Hid (PS 4 r0 r1 Z r3=hp X j)/\
   Mem (w.heap.size+1+1) ((w.alloc (.cells #[.bool s,.int .u64 a0,.int .u64 a1,.int .u64 a2,.int .u64 a3] 165)).alloc (.cells #[.bool false,.int .u64 0,.int .u64 0,.int .u64 0,.int .u64 0] 165)) (w.heap.size+1+1) s r0 r1 Z r3 wr) (fun v _=>(intOf v+1).toNat)
 case atStart=>
  refine ⟨256,255,0,0,0,0,rfl,rfl,by omega,by omega,by omega,by omega,?_,?_⟩
  ·show PS 4 0 0 0 0=hp X 256;rw [PS4,ap.out];omega
  ·exact ⟨by go_grown,by omega,by simp,by simp [go_sem],by simp [go_sem],by simp [go_sem],by simp [go_sem],by simp [go_sem],fun o=>by simp [go_sem],by unfold U;omega,by unfold U;omega,by unfold U;omega,by unfold U;omega⟩
 case round=>
  obtain ⟨j,i,r0,r1,Z,r3,rfl,E,av,hj,au,hi,V,H⟩:=hrel;have J:=(bcell H.below).1;have ac:=(bcell H.below).2;have ao:=H.c0;have ai:=H.c1;have al:=H.c2;have an:=H.c3;have aj:=H.c4;have ak:=H.fz;by_cases ar:nn<=i
  ·obtain ⟨m,rfl⟩:∃ m,j=m+1:=⟨j - 1,by have:=E.out;have:=en.out;omega⟩
   have aq:n<=m:=by have:=E.out;have:=en.out;omega
   obtain ⟨bt,ag⟩:∃ b,b=PS 4 a0 a1 a2 a3 / 2 ^ (m - n) % 2:=⟨_,rfl⟩
   have aa:Hid (X / 2 ^ m % 2=bt):=by show _=_;rw [hX.out,r_N _ _ _ aq,ag]
   have HB:Hid (bt=PS 4 a0 a1 a2 a3 / 2 ^ (m - n) % 2):=ag;have am:bt=0∨bt=1:=by omega
   clear ag;go_wp2_with fail
   refine (n_X a0 a1 a2 a3 p0 p1 p2 p3 (m - n) (by omega) _ bt (by have:=E.out;have:=en.out;omega) HB _).mono ?_;rintro e w1 ⟨rfl,hb⟩;have L:=H.up hb;clear J ac ao ai al an aj ak;have J:=(bcell L.below).1;have ac:=(bcell L.below).2;have ao:=L.c0;have ai:=L.c1;have al:=L.c2;have an:=L.c3;have aj:=L.c4;have ak:=L.fz;rcases am with rfl|rfl
   ·go_wp2
    go_roundw
    case rel=>exact ⟨m,i - 1,r0,r1,Z,r3,rfl,by have:=E.out;show i - 1+1=_;omega,by omega,by omega,by omega,by omega,(by show _=_;rw [g_q,aa.out,<- V.out];omega),L⟩
    case measure=>simp [intOf];omega
   ·obtain ⟨A,R⟩:∃ A,A=m % 64:=⟨_,rfl⟩
    have M:A < 64:=by omega
    have ad:Hid (A=m % 64):=R;clear R;have hq:m / 64=0∨m / 64=1∨m / 64=2∨m / 64=3:=by omega
    rcases hq with hq|hq|hq|hq
    ·have R:=ad.out;have ae:i % 64=(A:Int):=by have:=E.out;omega
     have ah:i / 64=0:=by have:=E.out;omega
     have I:r0 / 2 ^ A % 2=0:=by
      rw [<- (b_z r0 r1 Z r3 H.u0 H.u1 H.u2 H.u3 A M).1,show 64*0+A=m by omega,V.out];exact k_J _ _
     have O:=d_k r0 A H.u0 M I;have ab:=O.1;have af:=b_I A M;have HZ:Hid (r0 / 2 ^ A % 2=0):=I;have HM:Hid (m=64*0+A):=by show _=_;omega
     clear I R hq;go_wp2
     go_roundw
     case rel=>exact ⟨m,i - 1,(r0+2 ^ A),r1,Z,r3,rfl,by have:=E.out;show i - 1+1=_;omega,by omega,by omega,by omega,by omega,h_F V A m HM.out (by rw [g_q,aa.out];omega),L.set0 O.2⟩
     case measure=>simp [intOf];omega
    ·have R:=ad.out;have ae:i % 64=(A:Int):=by have:=E.out;omega
     have ah:i / 64=1:=by have:=E.out;omega
     have I:r1 / 2 ^ A % 2=0:=by
      rw [<- (b_z r0 r1 Z r3 H.u0 H.u1 H.u2 H.u3 A M).2.1,show 64*1+A=m by omega,V.out];exact k_J _ _
     have O:=d_k r1 A H.u1 M I;have ab:=O.1;have af:=b_I A M;have HZ:Hid (r1 / 2 ^ A % 2=0):=I;have HM:Hid (m=64*1+A):=by show _=_;omega
     clear I R hq;go_wp2
     go_roundw
     case rel=>exact ⟨m,i - 1,r0,(r1+2 ^ A),Z,r3,rfl,by have:=E.out;show i - 1+1=_;omega,by omega,by omega,by omega,by omega,h_G V A m HM.out (by rw [g_q,aa.out];omega),L.set1 O.2⟩
     case measure=>simp [intOf];omega
    ·have R:=ad.out;have ae:i % 64=(A:Int):=by have:=E.out;omega
     have ah:i / 64=2:=by have:=E.out;omega
     have I:Z / 2 ^ A % 2=0:=by
      rw [<- (b_z r0 r1 Z r3 H.u0 H.u1 H.u2 H.u3 A M).2.2.1,show 64*2+A=m by omega,V.out];exact k_J _ _
     have O:=d_k Z A H.u2 M I;have ab:=O.1;have af:=b_I A M;have HZ:Hid (Z / 2 ^ A % 2=0):=I;have HM:Hid (m=64*2+A):=by show _=_;omega
     clear I R hq;go_wp2
     go_roundw
     case rel=>exact ⟨m,i - 1,r0,r1,(Z+2 ^ A),r3,rfl,by have:=E.out;show i - 1+1=_;omega,by omega,by omega,by omega,by omega,h_H V A m HM.out (by rw [g_q,aa.out];omega),L.set2 O.2⟩
     case measure=>simp [intOf];omega
    ·have R:=ad.out;have ae:i % 64=(A:Int):=by have:=E.out;omega
     have ah:i / 64=3:=by have:=E.out;omega
     have I:r3 / 2 ^ A % 2=0:=by
      rw [<- (b_z r0 r1 Z r3 H.u0 H.u1 H.u2 H.u3 A M).2.2.2,show 64*3+A=m by omega,V.out];exact k_J _ _
     have O:=d_k r3 A H.u3 M I;have ab:=O.1;have af:=b_I A M;have HZ:Hid (r3 / 2 ^ A % 2=0):=I;have HM:Hid (m=64*3+A):=by show _=_;omega
     clear I R hq;go_wp2
     go_roundw
     case rel=>exact ⟨m,i - 1,r0,r1,Z,(r3+2 ^ A),rfl,by have:=E.out;show i - 1+1=_;omega,by omega,by omega,by omega,by omega,h_I V A m HM.out (by rw [g_q,aa.out];omega),L.set3 O.2⟩
     case measure=>simp [intOf];omega
  ·obtain rfl:j=n:=by have:=E.out;have:=en.out;omega
   go_wp2;obtain ⟨f0,f1,f2,f3,f4⟩:=five wr (w.heap.size+1) (.bool s) (.int .u64 r0) (.int .u64 r1) (.int .u64 Z) (.int .u64 r3) (by rw [J _ _ (by simp)];simp [go_sem];rfl) (by rw [J _ _ (by simp)];simp [go_sem];rfl) (by rw [J _ _ (by simp)];simp [go_sem];rfl) (by rw [J _ _ (by simp)];simp [go_sem];rfl) (by rw [J _ _ (by simp)];simp [go_sem];rfl);have hB:Below w.heap.size w wr:=Below.trans (by go_grown) (H.below.mono (by omega));refine bodyPost_ret (v:=.agg #[.bool s,.int .u64 r0,.int .u64 r1,.int .u64 Z,.int .u64 r3]) (by simp [results,Tryz.results167,go_sem,f0,f1,f2,f3,f4]) rfl ⟨_,rfl,⟨r0,r1,Z,r3,rfl,H.u0,H.u1,H.u2,H.u3,V.out⟩,?_⟩;go_grown
end Go.Proofs.YtkfpainpomobfaaGreatDoor.Rf
namespace Go.Proofs.YtkfpainpomobfaaGreatDoor.Rf
open Go.RowKit Fx List World Nat
attribute [local go_sem] a_Y b_f
def qp (x d:Int) (k:Nat):Int:=x / 2 ^ k / d*2 ^ k
theorem k_K (x d:Int) (k:Nat):qp x d (k+1) / 2 ^ k % 2=0:=by
 unfold qp;rw [show (2:Int) ^ (k+1)=2*2 ^ k by rw [Int.pow_succ,Int.mul_comm],<- Int.mul_assoc,Int.mul_ediv_cancel _ (Int.ne_of_gt (b_E k))];omega
theorem i_F (x:Int) (m:Nat):x / 2 ^ m=2*(x / 2 ^ (m+1))+x / 2 ^ m % 2:=by
 rw [d_f x m 1,show (2:Int) ^ 1=2 from rfl];omega
theorem k_L (x d rest A:Int) (m:Nat) (H:0 < d) (E:rest=x / 2 ^ (m+1) % d) (hb:x / 2 ^ m % 2=A):
  x / 2 ^ m=d*(2*(x / 2 ^ (m+1) / d))+(rest*2+A):=by
 have h:=i_F x m;have e:=Int.emod_add_mul_ediv (x / 2 ^ (m+1)) d;rw [hb] at h;rw [h,E];generalize x / 2 ^ (m+1)=y at *;have:d*(2*(y / d))=2*(d*(y / d)):=by rw [<- Int.mul_assoc,Int.mul_comm d 2,Int.mul_assoc]
 omega
theorem q_o {x d rest A:Int} {m:Nat} (E:0 < d/\0<=rest/\rest < d/\rest=x / 2 ^ (m+1) % d) (hb:x / 2 ^ m % 2=A) (I:0<=A/\A<=1) (H:d<=rest*2+A):
  x / 2 ^ m / d=2*(x / 2 ^ (m+1) / d)+1/\x / 2 ^ m % d=rest*2+A - d:=by
 have e:=k_L x d rest A m E.1 E.2.2.2 hb;refine (Int.ediv_emod_unique E.1).2 ⟨?_,by omega,by omega⟩;rw [e,Int.mul_add];omega
theorem s_9 {x d rest A:Int} {m:Nat} (E:0 < d/\0<=rest/\rest < d/\rest=x / 2 ^ (m+1) % d) (hb:x / 2 ^ m % 2=A) (I:0<=A/\A<=1) (H:¬ d<=rest*2+A):
  x / 2 ^ m / d=2*(x / 2 ^ (m+1) / d)/\x / 2 ^ m % d=rest*2+A:=by
 have e:=k_L x d rest A m E.1 E.2.2.2 hb;refine (Int.ediv_emod_unique E.1).2 ⟨?_,by omega,by omega⟩;rw [e];omega
theorem q_p (q:Int) (m:Nat):2*q*2 ^ m=q*2 ^ (m+1):=by
 rw [Int.pow_succ,Int.mul_comm 2 q,Int.mul_assoc,Int.mul_comm 2]
theorem k_M {x d rest A:Int} {m:Nat} (H:0 < d/\0<=rest/\rest < d/\rest=x / 2 ^ (m+1) % d) (hb:x / 2 ^ m % 2=A) (I:0<=A/\A<=1) (E:d<=rest*2+A):qp x d m=qp x d (m+1)+2 ^ m:=by
 unfold qp;rw [(q_o H hb I E).1,Int.add_mul,q_p,Int.one_mul]
theorem u_k {x d rest A:Int} {m:Nat} (H:0 < d/\0<=rest/\rest < d/\rest=x / 2 ^ (m+1) % d) (hb:x / 2 ^ m % 2=A) (I:0<=A/\A<=1) (E:¬ d<=rest*2+A):qp x d m=qp x d (m+1):=by
 unfold qp;rw [(s_9 H hb I E).1,q_p]
theorem k_N {x d rest A:Int} {m:Nat} (H:0 < d/\0<=rest/\rest < d/\rest=x / 2 ^ (m+1) % d) (hb:x / 2 ^ m % 2=A) (I:0<=A/\A<=1) (E:d<=rest*2+A):Hid (0 < d/\0<=rest*2+A - d/\rest*2+A - d < d/\rest*2+A - d=x / 2 ^ m % d):=
 ⟨H.1,by omega,by omega,(q_o H hb I E).2.symm⟩
theorem u_l {x d rest A:Int} {m:Nat} (H:0 < d/\0<=rest/\rest < d/\rest=x / 2 ^ (m+1) % d) (hb:x / 2 ^ m % 2=A) (I:0<=A/\A<=1) (E:¬ d<=rest*2+A):Hid (0 < d/\0<=rest*2+A/\rest*2+A < d/\rest*2+A=x / 2 ^ m % d):=
 ⟨H.1,by omega,by omega,(s_9 H hb I E).2.symm⟩
theorem t_a (a b:Int) (H:0<=a/\a < 9223372036854775808) (hb:0<=b/\b<=1):bits .or .u64 (a*2) b=a*2+b:=by
 have A:∀ n:Int,0<=n->n < 2 ^ 64->IntKind.u64.wrap n=n:=fun n I E=>by rw [IntKind.wrap_u64];omega
 exact bits_join .u64 64 (by decide) A 1 _ _ (by omega) (by omega) (by omega) (by omega) (by omega) (by omega)
theorem t_b {x d:Int} (E:0<=x) (J:x < 2 ^ 256) (H:0 < d) (L:0 < x % d):x / d < 2 ^ 256 - 1:=by
 have h:=Int.emod_add_mul_ediv x d;have A:0<=x / d:=Int.ediv_nonneg E (by omega);have I:1*(x / d)<=d*(x / d):=Int.mul_le_mul_of_nonneg_right (by omega) A;omega
/-- A quotient of whole numbers, rounded. -/
def rqI (x d:Int):Int:=if d < 2*(x % d)∨(2*(x % d)=d/\x / d % 2=1) then x / d+1 else x / d
theorem j_y (s:Bool) (a0 a1 a2 a3:Int) (p0:U a0) (p1:U a1) (p2:U a2) (p3:U a3) (ap d:Int) (aI:InR ap) (hd:0 < d/\d<=9223372036854775808) (aJ:Hid ((ap.natAbs:Int)=d)) (x:Int) (hx:Hid (PS 4 a0 a1 a2 a3=x/\0<=x/\x < 2 ^ 256)) (ac:Bool) (aH:Hid ((s==decide (ap < 0)) = !ac)) (w:World):
  Calls Tryz.prog 109 #[.agg #[.bool s,.int .u64 a0,.int .u64 a1,.int .u64 a2,.int .u64 a3],.int .i64 ap] w fun e w'=>∃ v,e = .returned v/\IsN v ac (rqI x d)/\Below w.heap.size w w':=by
 go_enter Tryz.func109,Tryz.ntmps109;go_wp2_with fail
 refine (f_E ap d aI aJ.out _).mono ?_;rintro e w' ⟨rfl,rfl⟩;go_wp2
 go_loopw [7,8] (fun u v wr=>∃ (j:Nat) (i rest M r1 r2 r3:Int),v = .int .i64 i/\u = .int .u64 rest/\Hid (i+1=(j:Int))/\j<=256/\0<=i+1/\i < 256/\Hid (PS 4 M r1 r2 r3=qp x d j)/\Hid (0 < d/\0<=rest/\rest < d/\rest=x / 2 ^ j % d)/\0<=rest/\rest < d/\
   Mem (w.heap.size+1+1) ((w.alloc (.cells #[.bool s,.int .u64 a0,.int .u64 a1,.int .u64 a2,.int .u64 a3] 165)).alloc (.cells #[.bool false,.int .u64 0,.int .u64 0,.int .u64 0,.int .u64 0] 165)) (w.heap.size+1+1) ac M r1 r2 r3 wr) (fun _ v _=>(intOf v+1).toNat)
 case atStart=>
  have hz:x / 2 ^ 256=0:=Int.ediv_eq_zero_of_lt hx.2.1 hx.2.2;refine ⟨256,255,0,0,0,0,0,rfl,rfl,rfl,by omega,by omega,by omega,?_,?_,by omega,by omega,?_⟩
  ·show PS 4 0 0 0 0=qp x d 256;unfold qp;rw [PS4,hz];simp
  ·refine ⟨hd.1,by omega,hd.1,?_⟩;rw [hz];simp
  ·exact ⟨by go_grown,by omega,by simp,by simp [go_sem];exact aH.out,by simp [go_sem],by simp [go_sem],by simp [go_sem],by simp [go_sem],fun o=>by simp [go_sem],by unfold U;omega,by unfold U;omega,by unfold U;omega,by unfold U;omega⟩
 case round=>
  obtain ⟨j,i,rest,M,r1,r2,r3,rfl,rfl,J,hj,aR,hi,ae,HR,aU,aV,E⟩:=hrel;have R:=(bcell E.below).1;have V:=(bcell E.below).2;have al:=E.c0;have ag:=E.c1;have aj:=E.c2;have ak:=E.c3;have ah:=E.c4;have ai:=E.fz;by_cases aT:0<=i
  ·obtain ⟨m,rfl⟩:∃ m,j=m+1:=⟨j - 1,by have:=J.out;omega⟩
   obtain ⟨bt,az⟩:∃ b,b=PS 4 a0 a1 a2 a3 / 2 ^ m % 2:=⟨_,rfl⟩
   have L:Hid (x / 2 ^ m % 2=bt):=by show _=_;rw [<- hx.1,az]
   have HB:Hid (bt=PS 4 a0 a1 a2 a3 / 2 ^ m % 2):=az;have av:0<=bt/\bt<=1:=by omega
   have h2:Hid (0<=bt/\bt<=1):=av;clear az;have aS:=t_a rest bt (by omega) av;have aQ:rest / 9223372036854775808=0:=by omega
   go_wp2_with fail
   refine (n_X a0 a1 a2 a3 p0 p1 p2 p3 m (by omega) _ bt (by have:=J.out;omega) HB _).mono ?_;rintro e w1 ⟨rfl,hb⟩;have O:=E.up hb;clear R V al ag aj ak ah ai;have R:=(bcell O.below).1;have V:=(bcell O.below).2;have al:=O.c0;have ag:=O.c1;have aj:=O.c2;have ak:=O.c3;have ah:=O.c4;have ai:=O.fz;by_cases af:d<=rest*2+bt
   ·obtain ⟨H,ad⟩:∃ H,H=m % 64:=⟨_,rfl⟩
    have Z:H < 64:=by omega
    have ar:Hid (H=m % 64):=ad;clear ad;have hq:m / 64=0∨m / 64=1∨m / 64=2∨m / 64=3:=by omega
    rcases hq with hq|hq|hq|hq
    ·have ad:=ar.out;have ax:i % 64=(H:Int):=by have:=J.out;omega
     have aA:i / 64=0:=by have:=J.out;omega
     have aa:M / 2 ^ H % 2=0:=by
      rw [<- (b_z M r1 r2 r3 E.u0 E.u1 E.u2 E.u3 H Z).1,show 64*0+H=m by omega,ae.out];exact k_K _ _ _
     have ab:=d_k M H E.u0 Z aa;have aq:=ab.1;have ay:=b_I H Z;have HM:Hid (m=64*0+H):=by show _=_;omega
     clear aa ad hq;go_wp2
     go_roundw
     case rel=>exact ⟨m,i - 1,_,(M+2 ^ H),r1,r2,r3,rfl,rfl,by have:=J.out;show i - 1+1=_;omega,by omega,by omega,by omega,h_F ae H m HM.out (k_M HR.out L.out h2.out af),k_N HR.out L.out h2.out af,by omega,by omega,O.set0 ab.2⟩
     case measure=>simp [intOf];omega
    ·have ad:=ar.out;have ax:i % 64=(H:Int):=by have:=J.out;omega
     have aA:i / 64=1:=by have:=J.out;omega
     have aa:r1 / 2 ^ H % 2=0:=by
      rw [<- (b_z M r1 r2 r3 E.u0 E.u1 E.u2 E.u3 H Z).2.1,show 64*1+H=m by omega,ae.out];exact k_K _ _ _
     have ab:=d_k r1 H E.u1 Z aa;have aq:=ab.1;have ay:=b_I H Z;have HM:Hid (m=64*1+H):=by show _=_;omega
     clear aa ad hq;go_wp2
     go_roundw
     case rel=>exact ⟨m,i - 1,_,M,(r1+2 ^ H),r2,r3,rfl,rfl,by have:=J.out;show i - 1+1=_;omega,by omega,by omega,by omega,h_G ae H m HM.out (k_M HR.out L.out h2.out af),k_N HR.out L.out h2.out af,by omega,by omega,O.set1 ab.2⟩
     case measure=>simp [intOf];omega
    ·have ad:=ar.out;have ax:i % 64=(H:Int):=by have:=J.out;omega
     have aA:i / 64=2:=by have:=J.out;omega
     have aa:r2 / 2 ^ H % 2=0:=by
      rw [<- (b_z M r1 r2 r3 E.u0 E.u1 E.u2 E.u3 H Z).2.2.1,show 64*2+H=m by omega,ae.out];exact k_K _ _ _
     have ab:=d_k r2 H E.u2 Z aa;have aq:=ab.1;have ay:=b_I H Z;have HM:Hid (m=64*2+H):=by show _=_;omega
     clear aa ad hq;go_wp2
     go_roundw
     case rel=>exact ⟨m,i - 1,_,M,r1,(r2+2 ^ H),r3,rfl,rfl,by have:=J.out;show i - 1+1=_;omega,by omega,by omega,by omega,h_H ae H m HM.out (k_M HR.out L.out h2.out af),k_N HR.out L.out h2.out af,by omega,by omega,O.set2 ab.2⟩
     case measure=>simp [intOf];omega
    ·have ad:=ar.out;have ax:i % 64=(H:Int):=by have:=J.out;omega
     have aA:i / 64=3:=by have:=J.out;omega
     have aa:r3 / 2 ^ H % 2=0:=by
      rw [<- (b_z M r1 r2 r3 E.u0 E.u1 E.u2 E.u3 H Z).2.2.2,show 64*3+H=m by omega,ae.out];exact k_K _ _ _
     have ab:=d_k r3 H E.u3 Z aa;have aq:=ab.1;have ay:=b_I H Z;have HM:Hid (m=64*3+H):=by show _=_;omega
     clear aa ad hq;go_wp2
     go_roundw
     case rel=>exact ⟨m,i - 1,_,M,r1,r2,(r3+2 ^ H),rfl,rfl,by have:=J.out;show i - 1+1=_;omega,by omega,by omega,by omega,h_I ae H m HM.out (k_M HR.out L.out h2.out af),k_N HR.out L.out h2.out af,by omega,by omega,O.set3 ab.2⟩
     case measure=>simp [intOf];omega
   ·go_wp2
    go_roundw
    case rel=>exact ⟨m,i - 1,_,M,r1,r2,r3,rfl,rfl,by have:=J.out;show i - 1+1=_;omega,by omega,by omega,by omega,(by show _=_;rw [ae.out];exact (u_k HR.out L.out h2.out (by omega)).symm),u_l HR.out L.out h2.out (by omega),by omega,by omega,O⟩
    case measure=>simp [intOf];omega
  ·obtain rfl:j=0:=by have:=J.out;omega
   have aB:x / 2 ^ 0=x:=by rw [show (2:Int) ^ 0=1 from rfl,Int.ediv_one]
   have an:Hid (PS 4 M r1 r2 r3=x / d):=by show _=_;rw [ae.out];unfold qp;rw [aB,show (2:Int) ^ 0=1 from rfl,Int.mul_one]
   have aw:Hid (rest=x % d):=by show _=_;have:=HR.2.2.2;rw [aB] at this;exact this
   have aC:Hid (M % 2=x / d % 2):=by
    show _=_;rw [<- an.out,PS4];omega
   have aP:bits .and .u64 M 1=M % 2:=and_one_u64 M E.u0.1 (by have:=E.u0.2;omega);clear aB
   have aL:(d - rest < rest/\rqI x d=x / d+1)∨(rest<=d - rest/\d - rest<=rest/\(M % 2==1)=true/\rqI x d=x / d+1)∨(rest<=d - rest/\d - rest<=rest/\(M % 2==1)=false/\rqI x d=x / d)∨(rest < d - rest/\rqI x d=x / d):=by
    have e1:=aw.out;have e2:=aC.out;unfold rqI;rw [<- e1,<- e2];rcases Int.lt_trichotomy rest (d - rest) with h|h|h
    ·right;right;right
     exact ⟨h,by rw [if_neg (by omega)]⟩
    ·right
     by_cases aE:M % 2=1
     ·left
      exact ⟨by omega,by omega,by simpa using aE,by rw [if_pos (by omega)]⟩
     ·right;left
      exact ⟨by omega,by omega,by simpa using aE,by rw [if_neg (by omega)]⟩
    ·left
     exact ⟨h,by rw [if_pos (by omega)]⟩
   have up:Hid (rqI x d=x / d+1)->∀ w2:World,Below wr.heap.size wr w2->True:=fun _ _ _=>trivial;rcases aL with ⟨k1,k2⟩|⟨k1,au,k2,k3⟩|⟨k1,au,k2,k3⟩|⟨k1,k2⟩
   ·have KQ:Hid (rqI x d=x / d+1):=k2;clear k2;go_wp2_with fail
    refine (d_3 M r1 r2 r3 1 0 0 0 E.u0 E.u1 E.u2 E.u3 (by unfold U;omega) (by unfold U;omega) (by unfold U;omega) (by unfold U;omega) _).mono ?_;rintro e w2 ⟨c0,c1,c2,c3,cr,rfl,v0,v1,v2,v3,am,hb⟩;have I:=E.up hb;have A:=(((I.set0 v0).set1 v1).set2 v2).set3 v3
    have ao:Hid (PS 4 c0 c1 c2 c3=rqI x d):=by
     show _=_;have h:=am.out;rw [an.out,BP4,PS4 1 0 0 0] at h;rw [KQ.out];have aD:x / d < 2 ^ 256 - 1:=t_b hx.2.1 hx.2.2 hd.1 (by have:=aw.out;(try have:=KT.out);omega);have hc:0<=PS 4 c0 c1 c2 c3:=by rw [PS4];unfold U at *;omega
     omega
    clear R V al ag aj ak ah ai;have R:=(bcell I.below).1;have V:=(bcell I.below).2;have al:=I.c0;have ag:=I.c1;have aj:=I.c2;have ak:=I.c3;have ah:=I.c4;have ai:=I.fz;have aN:=A.c0;have aG:=A.c1;have aM:=A.c2;have aF:=A.c3;have aO:=A.c4;go_wp2;obtain ⟨f0,f1,f2,f3,f4⟩:=five ((((w2.setCell ⟨w.heap.size+1+1,1,none⟩ (.int .u64 c0)).setCell ⟨w.heap.size+1+1,2,none⟩ (.int .u64 c1)).setCell ⟨w.heap.size+1+1,3,none⟩ (.int .u64 c2)).setCell ⟨w.heap.size+1+1,4,none⟩ (.int .u64 c3)) (w.heap.size+1) (.bool ac) (.int .u64 c0) (.int .u64 c1) (.int .u64 c2) (.int .u64 c3) (by rw [(bcell A.below).1 _ _ (by simp)];simp [go_sem];rfl) (by rw [(bcell A.below).1 _ _ (by simp)];simp [go_sem];rfl) (by rw [(bcell A.below).1 _ _ (by simp)];simp [go_sem];rfl) (by rw [(bcell A.below).1 _ _ (by simp)];simp [go_sem];rfl) (by rw [(bcell A.below).1 _ _ (by simp)];simp [go_sem];rfl);have hB:Below w.heap.size w ((((w2.setCell ⟨w.heap.size+1+1,1,none⟩ (.int .u64 c0)).setCell ⟨w.heap.size+1+1,2,none⟩ (.int .u64 c1)).setCell ⟨w.heap.size+1+1,3,none⟩ (.int .u64 c2)).setCell ⟨w.heap.size+1+1,4,none⟩ (.int .u64 c3)):=Below.trans (by go_grown) (A.below.mono (by omega));refine bodyPost_ret (v:=.agg #[.bool ac,.int .u64 c0,.int .u64 c1,.int .u64 c2,.int .u64 c3]) (by simp [results,Tryz.results109,go_sem,f0,f1,f2,f3,f4]) rfl ⟨_,rfl,⟨c0,c1,c2,c3,rfl,A.u0,A.u1,A.u2,A.u3,ao.out⟩,?_⟩;exact Below.setCell (Below.setCell (Below.setCell (Below.setCell (Below.setCell hB (by simp) _) (by simp) _) (by simp) _) (by simp) _) (by simp) _
   ·have KQ:Hid (rqI x d=x / d+1):=k3;have hk:(rest==d - rest)=true:=by rw [beq_iff_eq];omega
    have KT:Hid (d - rest<=rest):=au;clear k3 au;go_wp2_with fail
    refine (d_3 M r1 r2 r3 1 0 0 0 E.u0 E.u1 E.u2 E.u3 (by unfold U;omega) (by unfold U;omega) (by unfold U;omega) (by unfold U;omega) _).mono ?_;rintro e w2 ⟨c0,c1,c2,c3,cr,rfl,v0,v1,v2,v3,am,hb⟩;have I:=E.up hb;have A:=(((I.set0 v0).set1 v1).set2 v2).set3 v3
    have ao:Hid (PS 4 c0 c1 c2 c3=rqI x d):=by
     show _=_;have h:=am.out;rw [an.out,BP4,PS4 1 0 0 0] at h;rw [KQ.out];have aD:x / d < 2 ^ 256 - 1:=t_b hx.2.1 hx.2.2 hd.1 (by have:=aw.out;(try have:=KT.out);omega);have hc:0<=PS 4 c0 c1 c2 c3:=by rw [PS4];unfold U at *;omega
     omega
    clear R V al ag aj ak ah ai;have R:=(bcell I.below).1;have V:=(bcell I.below).2;have al:=I.c0;have ag:=I.c1;have aj:=I.c2;have ak:=I.c3;have ah:=I.c4;have ai:=I.fz;have aN:=A.c0;have aG:=A.c1;have aM:=A.c2;have aF:=A.c3;have aO:=A.c4;go_wp2;obtain ⟨f0,f1,f2,f3,f4⟩:=five ((((w2.setCell ⟨w.heap.size+1+1,1,none⟩ (.int .u64 c0)).setCell ⟨w.heap.size+1+1,2,none⟩ (.int .u64 c1)).setCell ⟨w.heap.size+1+1,3,none⟩ (.int .u64 c2)).setCell ⟨w.heap.size+1+1,4,none⟩ (.int .u64 c3)) (w.heap.size+1) (.bool ac) (.int .u64 c0) (.int .u64 c1) (.int .u64 c2) (.int .u64 c3) (by rw [(bcell A.below).1 _ _ (by simp)];simp [go_sem];rfl) (by rw [(bcell A.below).1 _ _ (by simp)];simp [go_sem];rfl) (by rw [(bcell A.below).1 _ _ (by simp)];simp [go_sem];rfl) (by rw [(bcell A.below).1 _ _ (by simp)];simp [go_sem];rfl) (by rw [(bcell A.below).1 _ _ (by simp)];simp [go_sem];rfl);have hB:Below w.heap.size w ((((w2.setCell ⟨w.heap.size+1+1,1,none⟩ (.int .u64 c0)).setCell ⟨w.heap.size+1+1,2,none⟩ (.int .u64 c1)).setCell ⟨w.heap.size+1+1,3,none⟩ (.int .u64 c2)).setCell ⟨w.heap.size+1+1,4,none⟩ (.int .u64 c3)):=Below.trans (by go_grown) (A.below.mono (by omega));refine bodyPost_ret (v:=.agg #[.bool ac,.int .u64 c0,.int .u64 c1,.int .u64 c2,.int .u64 c3]) (by simp [results,Tryz.results109,go_sem,f0,f1,f2,f3,f4]) rfl ⟨_,rfl,⟨c0,c1,c2,c3,rfl,A.u0,A.u1,A.u2,A.u3,ao.out⟩,?_⟩;exact Below.setCell (Below.setCell (Below.setCell (Below.setCell (Below.setCell hB (by simp) _) (by simp) _) (by simp) _) (by simp) _) (by simp) _
   ·have KQ:Hid (rqI x d=x / d):=k3;have hk:(rest==d - rest)=true:=by rw [beq_iff_eq];omega
    clear k3 au;go_wp2;obtain ⟨f0,f1,f2,f3,f4⟩:=five wr (w.heap.size+1) (.bool ac) (.int .u64 M) (.int .u64 r1) (.int .u64 r2) (.int .u64 r3) (by rw [(bcell E.below).1 _ _ (by simp)];simp [go_sem];rfl) (by rw [(bcell E.below).1 _ _ (by simp)];simp [go_sem];rfl) (by rw [(bcell E.below).1 _ _ (by simp)];simp [go_sem];rfl) (by rw [(bcell E.below).1 _ _ (by simp)];simp [go_sem];rfl) (by rw [(bcell E.below).1 _ _ (by simp)];simp [go_sem];rfl);have hB:Below w.heap.size w wr:=Below.trans (by go_grown) (E.below.mono (by omega));refine bodyPost_ret (v:=.agg #[.bool ac,.int .u64 M,.int .u64 r1,.int .u64 r2,.int .u64 r3]) (by simp [results,Tryz.results109,go_sem,f0,f1,f2,f3,f4]) rfl ⟨_,rfl,⟨M,r1,r2,r3,rfl,E.u0,E.u1,E.u2,E.u3,by rw [KQ.out];exact an.out⟩,?_⟩;exact Below.setCell (Below.setCell (Below.setCell (Below.setCell (Below.setCell hB (by simp) _) (by simp) _) (by simp) _) (by simp) _) (by simp) _
   ·have KQ:Hid (rqI x d=x / d):=k2;clear k2;go_wp2;obtain ⟨f0,f1,f2,f3,f4⟩:=five wr (w.heap.size+1) (.bool ac) (.int .u64 M) (.int .u64 r1) (.int .u64 r2) (.int .u64 r3) (by rw [(bcell E.below).1 _ _ (by simp)];simp [go_sem];rfl) (by rw [(bcell E.below).1 _ _ (by simp)];simp [go_sem];rfl) (by rw [(bcell E.below).1 _ _ (by simp)];simp [go_sem];rfl) (by rw [(bcell E.below).1 _ _ (by simp)];simp [go_sem];rfl) (by rw [(bcell E.below).1 _ _ (by simp)];simp [go_sem];rfl);have hB:Below w.heap.size w wr:=Below.trans (by go_grown) (E.below.mono (by omega));refine bodyPost_ret (v:=.agg #[.bool ac,.int .u64 M,.int .u64 r1,.int .u64 r2,.int .u64 r3]) (by simp [results,Tryz.results109,go_sem,f0,f1,f2,f3,f4]) rfl ⟨_,rfl,⟨M,r1,r2,r3,rfl,E.u0,E.u1,E.u2,E.u3,by rw [KQ.out];exact an.out⟩,?_⟩;exact Below.setCell (Below.setCell (Below.setCell (Below.setCell (Below.setCell hB (by simp) _) (by simp) _) (by simp) _) (by simp) _) (by simp) _
end Go.Proofs.YtkfpainpomobfaaGreatDoor.Rf
