/- The reference's halving, rounded: as who -/
import Derived.Test.YtkfpainpomobfaaGreatDoorR24
import Derived.Test.YtkfpainpomobfaaGreatDoorR09
import Derived.ArgAppend
set_option linter.unusedVariables false
set_option linter.unusedSimpArgs false
set_option maxHeartbeats 16000000
set_option maxRecDepth 16000
namespace Go.Proofs.YtkfpainpomobfaaGreatDoor.Rf
open Go.RowKit Fx List World Nat
attribute [local go_sem] a_Y b_f
theorem k_O (y:Int) (m:Nat):y % 2 ^ m / 2 ^ m % 2=0:=by
 rw [Int.ediv_eq_zero_of_lt (Int.emod_nonneg _ (Int.ne_of_gt (b_E m))) (Int.emod_lt_of_pos _ (b_E m))];rfl
theorem d_g (y:Int) (m:Nat):y % 2 ^ (m+1)=y % 2 ^ m+y / 2 ^ m % 2*2 ^ m:=by
 have H:=Int.emod_add_mul_ediv y (2 ^ m);have E:=Int.emod_add_mul_ediv y (2 ^ (m+1));have e:(2:Int) ^ (m+1)=2 ^ m*2:=Int.pow_succ 2 m;have A:y / 2 ^ (m+1)=y / 2 ^ m / 2:=by rw [d_f y m 1];rfl
 rw [A,e] at E;rw [e];generalize (2:Int) ^ m=P at *;generalize y / P=q at *
 have I:P*2*(q / 2)+q % 2*P=P*q:=by
  have:q=2*(q / 2)+q % 2:=by omega
  conv=>rhs;rw [this]
  rw [Int.mul_add,<- Int.mul_assoc,Int.mul_comm P (q % 2)]
 omega
/-- Whether a quotient by a power of two is rounded up, told by its bits. -/
theorem rq_down (x:Int) (k:Nat) (hb:x / 2 ^ k % 2=0):rqI x (2 ^ (k+1))=x / 2 ^ (k+1):=by
 have h:=d_g x k;have hp:=b_E k;have e:(2:Int) ^ (k+1)=2 ^ k*2:=Int.pow_succ 2 k;have E:=Int.emod_lt_of_pos x hp;have A:=Int.emod_nonneg x (Int.ne_of_gt hp);rw [hb] at h;unfold rqI;rw [if_neg (by rw [h];omega)]
theorem rq_up (x:Int) (k:Nat) (hb:x / 2 ^ k % 2=1) (A:Bool) (H:A=true↔(x / 2 ^ (k+1) % 2=1∨x % 2 ^ k≠0)):rqI x (2 ^ (k+1))=x / 2 ^ (k+1)+(if A then 1 else 0):=by
 have h:=d_g x k;have hp:=b_E k;have e:(2:Int) ^ (k+1)=2 ^ k*2:=Int.pow_succ 2 k;have J:=Int.emod_lt_of_pos x hp;have I:=Int.emod_nonneg x (Int.ne_of_gt hp);rw [hb] at h;unfold rqI;cases A
 ·have E:¬ (x / 2 ^ (k+1) % 2=1∨x % 2 ^ k≠0):=fun c=>by simpa using H.2 c
  rw [if_neg (by rw [h];omega)];simp
 ·have E:=H.1 rfl;rw [if_pos (by rw [h];omega)];simp
theorem r_O (x:Int) (k:Nat) (A:0<=x) (H:x < 2 ^ 256):x / 2 ^ (k+1) < 2 ^ 256 - 1:=by
 have h:=i_F x k;have I:x / 2 ^ k<=x:=Int.ediv_le_self _ A;have E:0<=x / 2 ^ (k+1):=Int.ediv_nonneg A (Int.le_of_lt (b_E (k+1)));omega
theorem n_Y {E x A:Int} {l:Nat} {L:Bool} (h:Hid (false=true↔(E % 2=1∨x % 2 ^ l≠0))) (hb:Hid (x / 2 ^ l % 2=A)) (O:L=true↔A=1):Hid (L=true↔(E % 2=1∨x % 2 ^ (l+1)≠0)):=by
 have M:=h.out;have H:=hb.out;have hp:=b_E l;show _↔_;rw [O,d_g,H];have R:¬ (E % 2=1∨x % 2 ^ l≠0):=fun c=>by simpa using M.2 c
 have J:x % 2 ^ l=0:=by omega
 rw [J];have I:A=0∨A=1:=by omega
 rcases I with rfl|rfl <;> simp <;> omega
theorem n_Z {E x:Int} {l:Nat} (h:Hid (true=true↔(E % 2=1∨x % 2 ^ l≠0))):Hid (true=true↔(E % 2=1∨x % 2 ^ (l+1)≠0)):=by
 have A:=h.1 rfl;have hp:=b_E l;have H:=Int.emod_nonneg x (Int.ne_of_gt hp);have I:0<=x / 2 ^ l % 2*2 ^ l:=Int.mul_nonneg (by omega) (by omega);show _↔_;rw [d_g];refine ⟨fun _=>?_,fun _=>rfl⟩;rcases A with A|A
 ·exact Or.inl A
 ·right;omega
theorem l_z (s:Bool) (a0 a1 a2 a3:Int) (p0:U a0) (p1:U a1) (p2:U a2) (p3:U a3) (n:Nat) (nn:Int) (en:Hid (nn=(n:Int)/\1<=n)) (aY:1<=nn/\nn<=255) (x:Int) (hx:Hid (PS 4 a0 a1 a2 a3=x/\0<=x/\x < 2 ^ 256)) (w:World):
  Calls Tryz.prog 103 #[.agg #[.bool s,.int .u64 a0,.int .u64 a1,.int .u64 a2,.int .u64 a3],.int .i64 nn] w fun e w'=>∃ v,e = .returned v/\IsN v s (rqI x (2 ^ n))/\Below w.heap.size w w':=by
 go_enter Tryz.func103,Tryz.ntmps103;go_wp2
 go_loopw [6] (fun v wr=>∃ (m:Nat) (i R r1 r2 r3:Int),v = .int .i64 i/\Hid (i - nn=(m:Int))/\nn<=i/\i<=256/\m<=256/\Hid (PS 4 R r1 r2 r3=x / 2 ^ n % 2 ^ m)/\
   Mem (w.heap.size+1+1) ((w.alloc (.cells #[.bool s,.int .u64 a0,.int .u64 a1,.int .u64 a2,.int .u64 a3] 165)).alloc (.cells #[.bool false,.int .u64 0,.int .u64 0,.int .u64 0,.int .u64 0] 165)) (w.heap.size+1+1) s R r1 r2 r3 wr) (fun v _=>(256 - intOf v).toNat)
 case atStart=>
  refine ⟨0,nn,0,0,0,0,rfl,by show nn - nn=_;omega,by omega,by omega,by omega,?_,?_⟩
  ·show PS 4 0 0 0 0=x / 2 ^ n % 2 ^ 0;rw [PS4,show (2:Int) ^ 0=1 from rfl];omega
  ·exact ⟨by go_grown,by omega,by simp,by simp [go_sem],by simp [go_sem],by simp [go_sem],by simp [go_sem],by simp [go_sem],fun o=>by simp [go_sem],by unfold U;omega,by unfold U;omega,by unfold U;omega,by unfold U;omega⟩
 case round=>
  obtain ⟨m,i,R,r1,r2,r3,rfl,M,aU,hi,aL,ah,O⟩:=hrel;have I:=(bcell O.below).1;have J:=(bcell O.below).2;have ak:=O.c0;have ae:=O.c1;have ai:=O.c2;have aj:=O.c3;have af:=O.c4;have ag:=O.fz;by_cases aT:i < 256
  ·obtain ⟨bt,an⟩:∃ b,b=PS 4 a0 a1 a2 a3 / 2 ^ (n+m) % 2:=⟨_,rfl⟩
   have Z:Hid (x / 2 ^ n / 2 ^ m % 2=bt):=by show _=_;rw [<- d_f,<- hx.1,an]
   have HB:Hid (bt=PS 4 a0 a1 a2 a3 / 2 ^ (n+m) % 2):=an;have aq:bt=0∨bt=1:=by omega
   clear an;go_wp2_with fail
   refine (n_X a0 a1 a2 a3 p0 p1 p2 p3 (n+m) (by have:=M.out;have:=en.out;omega) _ bt (by have:=M.out;have:=en.out;omega) HB _).mono ?_;rintro e w1 ⟨rfl,hb⟩;have A:=O.up hb;clear I J ak ae ai aj af ag;have I:=(bcell A.below).1;have J:=(bcell A.below).2;have ak:=A.c0;have ae:=A.c1;have ai:=A.c2;have aj:=A.c3;have af:=A.c4;have ag:=A.fz;rcases aq with rfl|rfl
   ·go_wp2
    go_roundw
    case rel=>exact ⟨m+1,i+1,R,r1,r2,r3,rfl,by have:=M.out;show i+1 - nn=_;omega,by omega,by omega,by have:=M.out;omega,(by show _=_;rw [d_g,Z.out,<- ah.out];omega),A⟩
    case measure=>simp [intOf];omega
   ·obtain ⟨L,ad⟩:∃ L,L=m % 64:=⟨_,rfl⟩
    have aa:L < 64:=by omega
    have av:Hid (L=m % 64):=ad;clear ad;have aM:m < 256:=by have:=M.out;omega
    have hq:m / 64=0∨m / 64=1∨m / 64=2∨m / 64=3:=by omega
    rcases hq with hq|hq|hq|hq
    ·have ad:=av.out;have aw:(i - nn) % 64=(L:Int):=by have:=M.out;omega
     have aB:(i - nn) / 64=0:=by have:=M.out;omega
     have ab:R / 2 ^ L % 2=0:=by
      rw [<- (b_z R r1 r2 r3 O.u0 O.u1 O.u2 O.u3 L aa).1,show 64*0+L=m by omega,ah.out];exact k_O _ _
     have ac:=d_k R L O.u0 aa ab;have ar:=ac.1;have ax:=b_I L aa;have HM:Hid (m=64*0+L):=by show _=_;omega
     clear ab ad hq;go_wp2
     go_roundw
     case rel=>exact ⟨m+1,i+1,(R+2 ^ L),r1,r2,r3,rfl,by have:=M.out;show i+1 - nn=_;omega,by omega,by omega,by omega,h_F ah L m HM.out (by rw [d_g,Z.out];omega),A.set0 ac.2⟩
     case measure=>simp [intOf];omega
    ·have ad:=av.out;have aw:(i - nn) % 64=(L:Int):=by have:=M.out;omega
     have aB:(i - nn) / 64=1:=by have:=M.out;omega
     have ab:r1 / 2 ^ L % 2=0:=by
      rw [<- (b_z R r1 r2 r3 O.u0 O.u1 O.u2 O.u3 L aa).2.1,show 64*1+L=m by omega,ah.out];exact k_O _ _
     have ac:=d_k r1 L O.u1 aa ab;have ar:=ac.1;have ax:=b_I L aa;have HM:Hid (m=64*1+L):=by show _=_;omega
     clear ab ad hq;go_wp2
     go_roundw
     case rel=>exact ⟨m+1,i+1,R,(r1+2 ^ L),r2,r3,rfl,by have:=M.out;show i+1 - nn=_;omega,by omega,by omega,by omega,h_G ah L m HM.out (by rw [d_g,Z.out];omega),A.set1 ac.2⟩
     case measure=>simp [intOf];omega
    ·have ad:=av.out;have aw:(i - nn) % 64=(L:Int):=by have:=M.out;omega
     have aB:(i - nn) / 64=2:=by have:=M.out;omega
     have ab:r2 / 2 ^ L % 2=0:=by
      rw [<- (b_z R r1 r2 r3 O.u0 O.u1 O.u2 O.u3 L aa).2.2.1,show 64*2+L=m by omega,ah.out];exact k_O _ _
     have ac:=d_k r2 L O.u2 aa ab;have ar:=ac.1;have ax:=b_I L aa;have HM:Hid (m=64*2+L):=by show _=_;omega
     clear ab ad hq;go_wp2
     go_roundw
     case rel=>exact ⟨m+1,i+1,R,r1,(r2+2 ^ L),r3,rfl,by have:=M.out;show i+1 - nn=_;omega,by omega,by omega,by omega,h_H ah L m HM.out (by rw [d_g,Z.out];omega),A.set2 ac.2⟩
     case measure=>simp [intOf];omega
    ·have ad:=av.out;have aw:(i - nn) % 64=(L:Int):=by have:=M.out;omega
     have aB:(i - nn) / 64=3:=by have:=M.out;omega
     have ab:r3 / 2 ^ L % 2=0:=by
      rw [<- (b_z R r1 r2 r3 O.u0 O.u1 O.u2 O.u3 L aa).2.2.2,show 64*3+L=m by omega,ah.out];exact k_O _ _
     have ac:=d_k r3 L O.u3 aa ab;have ar:=ac.1;have ax:=b_I L aa;have HM:Hid (m=64*3+L):=by show _=_;omega
     clear ab ad hq;go_wp2
     go_roundw
     case rel=>exact ⟨m+1,i+1,R,r1,r2,(r3+2 ^ L),rfl,by have:=M.out;show i+1 - nn=_;omega,by omega,by omega,by omega,h_I ah L m HM.out (by rw [d_g,Z.out];omega),A.set3 ac.2⟩
     case measure=>simp [intOf];omega
  ·obtain ⟨k,ek⟩:∃ k,n=k+1:=⟨n - 1,by have:=en.out;omega⟩
   have V:Hid (PS 4 R r1 r2 r3=x / 2 ^ n/\n=k+1):=by
    refine ⟨?_,ek⟩;rw [ah.out];apply Int.emod_eq_of_lt (Int.ediv_nonneg hx.2.1 (Int.le_of_lt (b_E n)));apply Int.ediv_lt_of_lt_mul (b_E n);rw [<- Int.pow_add,show m+n=256 by have:=M.out;have:=en.out;omega];exact hx.2.2
   clear ek;obtain ⟨bt,an⟩:∃ b,b=PS 4 a0 a1 a2 a3 / 2 ^ k % 2:=⟨_,rfl⟩
   have Z:Hid (x / 2 ^ k % 2=bt):=by show _=_;rw [<- hx.1,an]
   have HB:Hid (bt=PS 4 a0 a1 a2 a3 / 2 ^ k % 2):=an;have aq:bt=0∨bt=1:=by omega
   clear an;have hz:(nn==0)=false:=by simp;omega
   go_wp2_with fail
   refine (n_X a0 a1 a2 a3 p0 p1 p2 p3 k (by have:=V.out;have:=en.out;omega) _ bt (by have:=V.out;have:=en.out;omega) HB _).mono ?_;rintro e w1 ⟨rfl,hb⟩;have A:=O.up hb;clear I J ak ae ai aj af ag;have I:=(bcell A.below).1;have J:=(bcell A.below).2;have ak:=A.c0;have ae:=A.c1;have ai:=A.c2;have aj:=A.c3;have af:=A.c4;have ag:=A.fz;rcases aq with rfl|rfl
   ·have KQ:Hid (rqI x (2 ^ n)=x / 2 ^ n):=by show _=_;rw [V.2];exact rq_down x k Z.out
    go_wp2;obtain ⟨f0,f1,f2,f3,f4⟩:=five w1 (w.heap.size+1) (.bool s) (.int .u64 R) (.int .u64 r1) (.int .u64 r2) (.int .u64 r3) (by rw [(bcell A.below).1 _ _ (by simp)];simp [go_sem];rfl) (by rw [(bcell A.below).1 _ _ (by simp)];simp [go_sem];rfl) (by rw [(bcell A.below).1 _ _ (by simp)];simp [go_sem];rfl) (by rw [(bcell A.below).1 _ _ (by simp)];simp [go_sem];rfl) (by rw [(bcell A.below).1 _ _ (by simp)];simp [go_sem];rfl);have hB:Below w.heap.size w w1:=Below.trans (by go_grown) (A.below.mono (by omega));refine bodyPost_ret (v:=.agg #[.bool s,.int .u64 R,.int .u64 r1,.int .u64 r2,.int .u64 r3]) (by simp [results,Tryz.results103,go_sem,f0,f1,f2,f3,f4]) rfl ⟨_,rfl,⟨R,r1,r2,r3,rfl,A.u0,A.u1,A.u2,A.u3,by rw [KQ.out];exact V.1⟩,?_⟩;exact Below.setCell (Below.setCell (Below.setCell (Below.setCell (Below.setCell hB (by simp) _) (by simp) _) (by simp) _) (by simp) _) (by simp) _
   ·have aO:bits .and .u64 R 1=R % 2:=and_one_u64 R O.u0.1 (by have:=O.u0.2;omega);have aW:0<=R % 2/\R % 2<=1:=by omega
    go_wp2
    go_loopw [7,8] (fun u v aJ=>∃ (l:Nat) (i2:Int) (al:Bool),v = .int .i64 i2/\u = .bool al/\Hid (i2=(l:Int))/\l<=k/\0<=i2/\i2<=nn - 1/\Hid (al=true↔(R % 2=1∨x % 2 ^ l≠0))/\
     Mem (w.heap.size+1+1) ((w.alloc (.cells #[.bool s,.int .u64 a0,.int .u64 a1,.int .u64 a2,.int .u64 a3] 165)).alloc (.cells #[.bool false,.int .u64 0,.int .u64 0,.int .u64 0,.int .u64 0] 165)) (w.heap.size+1+1) s R r1 r2 r3 aJ) (fun _ v _=>(nn - intOf v).toNat)
    case atStart=>
     refine ⟨0,0,_,rfl,rfl,rfl,by omega,by omega,by omega,?_,A⟩;show _↔_;rw [show (2:Int) ^ 0=1 from rfl,Int.emod_one];simp
    case round=>
     obtain ⟨l,i2,al,rfl,rfl,ap,aV,aQ,aN,ao,E⟩:=hrel;clear I J ak ae ai aj af ag;have I:=(bcell E.below).1;have J:=(bcell E.below).2;have ak:=E.c0;have ae:=E.c1;have ai:=E.c2;have aj:=E.c3;have af:=E.c4;have ag:=E.fz;by_cases aE:i2 < nn - 1
     ·have aP:l < k:=by have:=ap.out;have:=V.out;have:=en.out;omega
      cases al
      ·obtain ⟨b2,aA⟩:∃ b,b=PS 4 a0 a1 a2 a3 / 2 ^ l % 2:=⟨_,rfl⟩
       have az:Hid (x / 2 ^ l % 2=b2):=by show _=_;rw [<- hx.1,aA]
       have aG:Hid (b2=PS 4 a0 a1 a2 a3 / 2 ^ l % 2):=aA;have ay:b2=0∨b2=1:=by omega
       clear aA;go_wp2_with fail
       refine (n_X a0 a1 a2 a3 p0 p1 p2 p3 l (by have:=V.out;have:=en.out;omega) _ b2 (by have:=ap.out;omega) aG _).mono ?_;rintro e w3 ⟨rfl,aI⟩;have H:=E.up aI;clear I J ak ae ai aj af ag;have I:=(bcell H.below).1;have J:=(bcell H.below).2;have ak:=H.c0;have ae:=H.c1;have ai:=H.c2;have aj:=H.c3;have af:=H.c4;have ag:=H.fz;rcases ay with rfl|rfl
       all_goals
        go_wp2
        go_roundw
        case rel=>exact ⟨l+1,i2+1,_,rfl,rfl,by have:=ap.out;show i2+1=_;omega,by omega,by omega,by omega,n_Y ao az (by simp),H⟩
        case measure=>simp [intOf];omega
      ·go_wp2
       go_roundw
       case rel=>exact ⟨l+1,i2+1,true,rfl,rfl,by have:=ap.out;show i2+1=_;omega,by omega,by omega,by omega,n_Z ao,E⟩
       case measure=>simp [intOf];omega
     ·obtain rfl:l=k:=by have:=ap.out;have:=V.out;have:=en.out;omega
      have aF:Hid (R % 2=x / 2 ^ n % 2):=by
       show _=_;rw [<- V.1,PS4];omega
      have au:=fun (_:Unit)=>rq_up x l Z.out al (by have h:=ao.out;rw [aF.out,V.2] at h;exact h);cases al
      ·have KQ:Hid (rqI x (2 ^ n)=x / 2 ^ n):=by
        show _=_;have h:=au ();rw [V.2,h];simp
       clear au;go_wp2;obtain ⟨f0,f1,f2,f3,f4⟩:=five wr (w.heap.size+1) (.bool s) (.int .u64 R) (.int .u64 r1) (.int .u64 r2) (.int .u64 r3) (by rw [(bcell E.below).1 _ _ (by simp)];simp [go_sem];rfl) (by rw [(bcell E.below).1 _ _ (by simp)];simp [go_sem];rfl) (by rw [(bcell E.below).1 _ _ (by simp)];simp [go_sem];rfl) (by rw [(bcell E.below).1 _ _ (by simp)];simp [go_sem];rfl) (by rw [(bcell E.below).1 _ _ (by simp)];simp [go_sem];rfl);have hB:Below w.heap.size w wr:=Below.trans (by go_grown) (E.below.mono (by omega));refine bodyPost_ret (v:=.agg #[.bool s,.int .u64 R,.int .u64 r1,.int .u64 r2,.int .u64 r3]) (by simp [results,Tryz.results103,go_sem,f0,f1,f2,f3,f4]) rfl ⟨_,rfl,⟨R,r1,r2,r3,rfl,E.u0,E.u1,E.u2,E.u3,by rw [KQ.out];exact V.1⟩,?_⟩;exact Below.setCell (Below.setCell (Below.setCell (Below.setCell (Below.setCell hB (by simp) _) (by simp) _) (by simp) _) (by simp) _) (by simp) _
      ·have KQ:Hid (rqI x (2 ^ n)=x / 2 ^ n+1):=by
        show _=_;have h:=au ();rw [V.2,h];simp
       clear au;go_wp2_with fail
       refine (d_3 R r1 r2 r3 1 0 0 0 E.u0 E.u1 E.u2 E.u3 (by unfold U;omega) (by unfold U;omega) (by unfold U;omega) (by unfold U;omega) _).mono ?_;rintro e w2 ⟨c0,c1,c2,c3,cr,rfl,v0,v1,v2,v3,aC,aH⟩;have am:=E.up aH;have H:=(((am.set0 v0).set1 v1).set2 v2).set3 v3
       have aD:Hid (PS 4 c0 c1 c2 c3=rqI x (2 ^ n)):=by
        show _=_;have h:=aC.out;rw [V.1,BP4,PS4 1 0 0 0] at h;rw [KQ.out]
        have aE:x / 2 ^ n < 2 ^ 256 - 1:=by
         rw [V.2];exact r_O x l hx.2.1 hx.2.2
        have hc:0<=PS 4 c0 c1 c2 c3:=by rw [PS4];unfold U at *;omega
        omega
       clear I J ak ae ai aj af ag;have I:=(bcell am.below).1;have J:=(bcell am.below).2;have ak:=am.c0;have ae:=am.c1;have ai:=am.c2;have aj:=am.c3;have af:=am.c4;have ag:=am.fz;have aZ:=H.c0;have aS:=H.c1;have aX:=H.c2;have aR:=H.c3;have a4:=H.c4;go_wp2;obtain ⟨f0,f1,f2,f3,f4⟩:=five ((((w2.setCell ⟨w.heap.size+1+1,1,none⟩ (.int .u64 c0)).setCell ⟨w.heap.size+1+1,2,none⟩ (.int .u64 c1)).setCell ⟨w.heap.size+1+1,3,none⟩ (.int .u64 c2)).setCell ⟨w.heap.size+1+1,4,none⟩ (.int .u64 c3)) (w.heap.size+1) (.bool s) (.int .u64 c0) (.int .u64 c1) (.int .u64 c2) (.int .u64 c3) (by rw [(bcell H.below).1 _ _ (by simp)];simp [go_sem];rfl) (by rw [(bcell H.below).1 _ _ (by simp)];simp [go_sem];rfl) (by rw [(bcell H.below).1 _ _ (by simp)];simp [go_sem];rfl) (by rw [(bcell H.below).1 _ _ (by simp)];simp [go_sem];rfl) (by rw [(bcell H.below).1 _ _ (by simp)];simp [go_sem];rfl);have hB:Below w.heap.size w ((((w2.setCell ⟨w.heap.size+1+1,1,none⟩ (.int .u64 c0)).setCell ⟨w.heap.size+1+1,2,none⟩ (.int .u64 c1)).setCell ⟨w.heap.size+1+1,3,none⟩ (.int .u64 c2)).setCell ⟨w.heap.size+1+1,4,none⟩ (.int .u64 c3)):=Below.trans (by go_grown) (H.below.mono (by omega));refine bodyPost_ret (v:=.agg #[.bool s,.int .u64 c0,.int .u64 c1,.int .u64 c2,.int .u64 c3]) (by simp [results,Tryz.results103,go_sem,f0,f1,f2,f3,f4]) rfl ⟨_,rfl,⟨c0,c1,c2,c3,rfl,H.u0,H.u1,H.u2,H.u3,aD.out⟩,?_⟩;exact Below.setCell (Below.setCell (Below.setCell (Below.setCell (Below.setCell hB (by simp) _) (by simp) _) (by simp) _) (by simp) _) (by simp) _
end Go.Proofs.YtkfpainpomobfaaGreatDoor.Rf
namespace Go.Proofs.YtkfpainpomobfaaGreatDoor.Rf
open Go.RowKit Fx List World Nat
attribute [local go_sem] a_Y b_f
/-- Block b holds four words; below B all is as it was. -/
structure MemA (B:Nat) (W2:World) (b:Nat) (r0 r1 r2 r3:Int) (wr:World):Prop where
 below:Below B W2 wr
 le:B<=b
 lt:b < wr.heap.size
 c0:wr.cell? ⟨b,0,none⟩=some (.int .u64 r0)
 c1:wr.cell? ⟨b,1,none⟩=some (.int .u64 r1)
 c2:wr.cell? ⟨b,2,none⟩=some (.int .u64 r2)
 c3:wr.cell? ⟨b,3,none⟩=some (.int .u64 r3)
 fz:∀ o,wr.frozen? ⟨b,o,none⟩=false
 u0:U r0
 u1:U r1
 u2:U r2
 u3:U r3
theorem MemA.up {B:Nat} {L wr H:World} {b:Nat} {I J M O:Int} (h:MemA B L b I J M O wr) (hb:Below wr.heap.size wr H):MemA B L b I J M O H:=by
 obtain ⟨E,hf⟩:=bcell hb;have V:wr.heap.size<=H.heap.size:=hb.size;have R:=h.le;have A:=h.lt;exact ⟨h.below.trans (hb.mono (by omega)),h.le,by omega,by rw [E _ _ A];exact h.c0,by rw [E _ _ A];exact h.c1,by rw [E _ _ A];exact h.c2,by rw [E _ _ A];exact h.c3,fun o=>by rw [hf _ _ A];exact h.fz o,h.u0,h.u1,h.u2,h.u3⟩
theorem MemA.set {B:Nat} {J wr:World} {b:Nat} {L O R Z A H I E:Int} (h:MemA B J b L O R Z wr) (h0:U A) (M:U H) (h2:U I) (V:U E):
  MemA B J b A H I E ((((wr.setCell ⟨b,0,none⟩ (.int .u64 A)).setCell ⟨b,1,none⟩ (.int .u64 H)).setCell ⟨b,2,none⟩ (.int .u64 I)).setCell ⟨b,3,none⟩ (.int .u64 E)):=by
 refine ⟨(((h.below.setCell h.le _).setCell h.le _).setCell h.le _).setCell h.le _,h.le,by simp only [size_setCell];exact h.lt,?_,?_,?_,?_,fun o=>by simp only [frozen?_setCell];exact h.fz o,h0,M,h2,V⟩
 ·rw [set_off (by omega),set_off (by omega),set_off (by omega)];exact set_same h.c0
 ·rw [set_off (by omega),set_off (by omega)];exact set_same (by rw [set_off (by omega)];exact h.c1)
 ·rw [set_off (by omega)];exact set_same (by rw [set_off (by omega),set_off (by omega)];exact h.c2)
 ·exact set_same (by rw [set_off (by omega),set_off (by omega),set_off (by omega)];exact h.c3)
theorem u_m (p q:Int) (W:World):Sem.run Tryz.prog (Instr.index 186 (.agg #[.int .u64 p,.int .u64 q]) (.int .i64 0)) W = .ok (.int .u64 p) W:=by
 simp [Instr.index,go_sem]
theorem u_n (p q:Int) (W:World):Sem.run Tryz.prog (Instr.index 186 (.agg #[.int .u64 p,.int .u64 q]) (.int .i64 1)) W = .ok (.int .u64 q) W:=by
 simp [Instr.index,go_sem]
attribute [local go_sem] u_m u_n
def q_q (k:Nat) (p q:Int):Int:=if k=0 then (p+q)*4294967296 else if k=1 then q*4294967296 else 0
theorem f_F (a b:Int) (A:0<=a/\a < 4294967296) (hb:0<=b/\b < 4294967296):0<=a*b/\a*b<=18446744065119617025:=by
 refine ⟨Int.mul_nonneg A.1 hb.1,?_⟩;have:=Int.mul_le_mul (show a<=4294967295 by omega) (show b<=4294967295 by omega) hb.1 (by omega);omega
theorem j_z (x y E A y0 y1:Int) (H:x=A*4294967296+E) (J:y=y1*4294967296+y0):
  x*y=E*y0+A*y1*18446744073709551616+(E*y1+A*y0)*4294967296:=by
 rw [H,J,Int.add_mul,Int.mul_add,Int.mul_add]
 have I:A*4294967296*(y1*4294967296)=A*y1*18446744073709551616:=by
  rw [Int.mul_assoc A,Int.mul_comm 4294967296 (y1*4294967296),<- Int.mul_assoc A,<- Int.mul_assoc A,Int.mul_assoc (A*y1)];rfl
 have L:A*4294967296*y0=A*y0*4294967296:=by rw [Int.mul_assoc,Int.mul_comm 4294967296,<- Int.mul_assoc]
 have M:E*(y1*4294967296)=E*y1*4294967296:=by rw [<- Int.mul_assoc]
 rw [I,L,M];omega
theorem n_0 (a b x y x0 x1 y0 y1 M O I H Z:Int) (ah:Bool) (ha:InR a) (hb:InR b) (ag:Hid ((a.natAbs:Int)=x/\(b.natAbs:Int)=y)) (aj:Hid ((decide (a < 0)==decide (b < 0)) = !ah))
  (e1:bits .and .u64 x 4294967295=x0) (e2:x / 4294967296=x1) (e3:bits .and .u64 y 4294967295=y0) (e4:y / 4294967296=y1)
  (hx:0<=x/\x<=9223372036854775808) (hy:0<=y/\y<=9223372036854775808) (am:0<=x0/\x0 < 4294967296) (al:0<=x1/\x1 < 4294967296) (ak:0<=y0/\y0 < 4294967296) (an:0<=y1/\y1 < 4294967296)
  (f1:x0*y0=M) (f2:x1*y1=O) (f3:x0*y1=I) (f4:x1*y0=H) (g1:0<=M/\M<=18446744065119617025) (g2:0<=O/\O<=18446744065119617025) (g3:0<=I/\I<=18446744065119617025) (g4:0<=H/\H<=18446744065119617025)
  (hZ:Hid (M+O*18446744073709551616+(I+H)*4294967296=Z/\Z < 340282366920938463463374607431768211456)) (w:World):
  Calls Tryz.prog 101 #[.int .i64 a,.int .i64 b] w fun e w'=>∃ v,e = .returned v/\IsN v ah Z/\Below w.heap.size w w':=by
 go_enter Tryz.func101,Tryz.ntmps101;go_wp2_with fail
 refine (f_E a x ha ag.1 _).mono ?_;rintro e w' ⟨rfl,rfl⟩;go_wp2_with fail
 refine (f_E b y hb ag.2 _).mono ?_;rintro e w' ⟨rfl,rfl⟩;go_wp2;clear e1 e2 e3 e4 f1 f2 f3 f4
 go_loopw [40] (fun v wr=>∃ (k:Nat) (r0 r1 r2 r3:Int),v = .int .i64 (k:Int)/\k<=2/\Hid (PS 4 r0 r1 r2 r3+q_q k I H=Z)/\MemA (w.heap.size+1) (w.alloc (.cells #[.bool false,.int .u64 0,.int .u64 0,.int .u64 0,.int .u64 0] 165)) (w.heap.size+1) r0 r1 r2 r3 wr) (fun v _=>2 - (intOf v).toNat)
 case atStart=>
  refine ⟨0,M,O,0,0,rfl,by omega,?_,?_⟩
  ·show PS 4 M O 0 0+q_q 0 I H=Z;rw [PS4,<- hZ.1];simp [q_q]
  ·exact ⟨by go_grown,by omega,by simp,by simp [go_sem],by simp [go_sem],by simp [go_sem],by simp [go_sem],fun o=>by simp [go_sem],by unfold U;omega,by unfold U;omega,by unfold U;omega,by unfold U;omega⟩
 case round=>
  obtain ⟨k,r0,r1,r2,r3,rfl,hk,af,J⟩:=hrel;have A:=(bcell J.below).1;have L:=(bcell J.below).2;have ad:=J.c0;have V:=J.c1;have ab:=J.c2;have ac:=J.c3;have aa:=J.fz
  match k,hk with
  | 0,_=>
   go_wp2_with fail
   refine (d_3 r0 r1 r2 r3 (IntKind.u64.wrap (I*4294967296)) (I / 4294967296) 0 0 J.u0 J.u1 J.u2 J.u3 (h_N _) (by unfold U;omega) (by unfold U;omega) (by unfold U;omega) _).mono ?_;rintro e w1 ⟨c0,c1,c2,c3,cr,rfl,v0,v1,v2,v3,R,hb⟩;have E:=J.up hb;have ae:=E.set v0 v1 v2 v3
   have hN:Hid (PS 4 c0 c1 c2 c3+q_q 1 I H=Z):=by
    show _=_;have h:=R.out;have h':=af.out;have ai:=hZ.2;have hc:0<=PS 4 c0 c1 c2 c3:=by rw [PS4];unfold U at *;omega
    rw [BP4,PS4 (IntKind.u64.wrap (I*4294967296)),IntKind.wrap_u64] at h;simp [q_q] at h' ⊢;omega
   clear A L ad V ab ac aa;have A:=(bcell E.below).1;have L:=(bcell E.below).2;have ad:=E.c0;have V:=E.c1;have ab:=E.c2;have ac:=E.c3;have aa:=E.fz;go_wp2
   go_roundw
   case rel=>exact ⟨1,c0,c1,c2,c3,rfl,by omega,hN,ae⟩
   case measure=>simp [intOf]
  | 1,_=>
   go_wp2_with fail
   refine (d_3 r0 r1 r2 r3 (IntKind.u64.wrap (H*4294967296)) (H / 4294967296) 0 0 J.u0 J.u1 J.u2 J.u3 (h_N _) (by unfold U;omega) (by unfold U;omega) (by unfold U;omega) _).mono ?_;rintro e w1 ⟨c0,c1,c2,c3,cr,rfl,v0,v1,v2,v3,R,hb⟩;have E:=J.up hb;have ae:=E.set v0 v1 v2 v3
   have hN:Hid (PS 4 c0 c1 c2 c3+q_q 2 I H=Z):=by
    show _=_;have h:=R.out;have h':=af.out;have ai:=hZ.2;have hc:0<=PS 4 c0 c1 c2 c3:=by rw [PS4];unfold U at *;omega
    rw [BP4,PS4 (IntKind.u64.wrap (H*4294967296)),IntKind.wrap_u64] at h;simp [q_q] at h' ⊢;omega
   clear A L ad V ab ac aa;have A:=(bcell E.below).1;have L:=(bcell E.below).2;have ad:=E.c0;have V:=E.c1;have ab:=E.c2;have ac:=E.c3;have aa:=E.fz;go_wp2
   go_roundw
   case rel=>exact ⟨2,c0,c1,c2,c3,rfl,by omega,hN,ae⟩
   case measure=>simp [intOf]
  | 2,_=>
   go_wp2;obtain ⟨f0,f1,f2,f3,f4⟩:=five wr w.heap.size (.bool (!(decide (a < 0)==decide (b < 0)))) (.int .u64 r0) (.int .u64 r1) (.int .u64 r2) (.int .u64 r3) (by rw [A _ _ (by simp)];simp [go_sem];rfl) (by rw [A _ _ (by simp)];simp [go_sem];rfl) (by rw [A _ _ (by simp)];simp [go_sem];rfl) (by rw [A _ _ (by simp)];simp [go_sem];rfl) (by rw [A _ _ (by simp)];simp [go_sem];rfl);have hB:Below w.heap.size w wr:=Below.trans (by go_grown) (J.below.mono (by omega));refine bodyPost_ret (v:=.agg #[.bool (!(decide (a < 0)==decide (b < 0))),.int .u64 r0,.int .u64 r1,.int .u64 r2,.int .u64 r3]) (by simp [results,Tryz.results101,go_sem,f0,f1,f2,f3,f4]) rfl ⟨_,rfl,⟨r0,r1,r2,r3,by rw [aj.out,Bool.not_not],J.u0,J.u1,J.u2,J.u3,?_⟩,?_⟩
   ·have h:=af.out;simp [q_q] at h;exact h
   ·exact Below.setCell (Below.setCell (Below.setCell (Below.setCell (Below.setCell hB (by simp) _) (by simp) _) (by simp) _) (by simp) _) (by simp) _
end Go.Proofs.YtkfpainpomobfaaGreatDoor.Rf
namespace Go.Proofs.YtkfpainpomobfaaGreatDoor.Rf
open Go.RowKit Fx List World Nat
theorem n_1 (x d:Nat):rqI (x:Int) (d:Int)=((rq x d:Nat):Int):=by
 unfold rqI rq;rw [<- Int.natCast_emod,<- Int.natCast_ediv];generalize x % d=r;generalize x / d=q
 split <;> split <;> omega
theorem i_G (a b:Int) (I:InR a) (hb:InR b) (w:World):
  Calls Tryz.prog 101 #[.int .i64 a,.int .i64 b] w fun e O=>∃ v,e = .returned v/\IsN v (Fx.differ a b) ((a.natAbs*b.natAbs:Nat):Int)/\Below w.heap.size w O:=by
 obtain ⟨x,L⟩:∃ x:Int,(a.natAbs:Int)=x:=⟨_,rfl⟩
 obtain ⟨y,H⟩:∃ y:Int,(b.natAbs:Int)=y:=⟨_,rfl⟩
 have J:0<=x/\x<=9223372036854775808:=by unfold InR at I;omega
 have A:0<=y/\y<=9223372036854775808:=by unfold InR at hb;omega
 have E:=j_z x y (x % 4294967296) (x / 4294967296) (y % 4294967296) (y / 4294967296) (by omega) (by omega);have M:x*y<=9223372036854775808*9223372036854775808:=Int.mul_le_mul J.2 A.2 A.1 (by omega);rw [Int.natCast_mul,L,H]
 exact n_0 a b x y (x % 4294967296) (x / 4294967296) (y % 4294967296) (y / 4294967296) _ _ _ _ (x*y) (Fx.differ a b) I hb ⟨L,H⟩ (by show _=_;unfold Fx.differ;cases decide (a < 0) <;> cases decide (b < 0) <;> rfl)
  (Kn.maskI x (by omega) (by omega)) rfl (Kn.maskI y (by omega) (by omega)) rfl J A (by omega) (by omega) (by omega) (by omega) rfl rfl rfl rfl
  (f_F _ _ (by omega) (by omega)) (f_F _ _ (by omega) (by omega)) (f_F _ _ (by omega) (by omega)) (f_F _ _ (by omega) (by omega)) ⟨E.symm,by omega⟩ w
theorem g_r (v:Value) (s:Bool) (x:Int) (A:IsN v s x) (M:x*4294967296 < 115792089237316195423570985008687907853269984665640564039457584007913129639936) (w:World):
  Calls Tryz.prog 167 #[v,.int .i64 32] w fun e R=>∃ u,e = .returned u/\IsN u s (x*4294967296)/\Below w.heap.size w R:=by
 have hr:=A.rng;obtain ⟨E,O,V,J,rfl,L,Z,H,I,hX⟩:=A
 have h:=j_x s E O V J L Z H I 32 (by omega) 32 rfl (by omega) (x*4294967296) (by show _=_;rw [hX];rfl) (by
  show x*4294967296 / 2 ^ 256*2 ^ 256=0;rw [Int.ediv_eq_zero_of_lt (by omega) (show x*4294967296 < 2 ^ 256 from M),Int.zero_mul]) w
 rw [show hp (x*4294967296) 32=x*4294967296 from by
  unfold hp;rw [show (2:Int) ^ 32=4294967296 from rfl,Int.mul_ediv_cancel _ (by omega)]] at h
 exact h
theorem j_A (v:Value) (s:Bool) (x A:Int) (H:IsN v s x) (E:InR A) (h0:A≠0) (w:World):
  Calls Tryz.prog 109 #[v,.int .i64 A] w fun e Z=>∃ u,e = .returned u/\IsN u (s != decide (A < 0)) (rqI x (A.natAbs:Int))/\Below w.heap.size w Z:=by
 have I:=H.rng;obtain ⟨J,V,a2,O,rfl,R,p1,L,M,hX⟩:=H;exact j_y s J V a2 O R p1 L M A (A.natAbs:Int) E (by unfold InR at E;omega) rfl x ⟨hX,I.1,I.2⟩ _ (by show _=_;cases s <;> cases decide (A < 0) <;> rfl) w
theorem g_3 (v:Value) (s:Bool) (x:Int) (A:IsN v s x) (w:World):
  Calls Tryz.prog 103 #[v,.int .i64 32] w fun e R=>∃ u,e = .returned u/\IsN u s (rqI x 4294967296)/\Below w.heap.size w R:=by
 have E:=A.rng;obtain ⟨H,O,V,L,rfl,M,Z,p2,J,I⟩:=A;exact l_z s H O V L M Z p2 J 32 32 ⟨rfl,by omega⟩ (by omega) x ⟨I,E.1,E.2⟩ w
theorem g_s (a:Int):sv (decide (a < 0)) (a.natAbs:Int)=a:=by
 unfold sv;by_cases h:a < 0
 ·rw [if_pos (by simpa using h)];omega
 ·rw [if_neg (by simpa using h)];omega
theorem r_P (s:Bool) (x:Int):sv (!s) x = -sv s x:=by
 unfold sv;cases s <;> simp
theorem add_ref (a b:Int) (R:InR a) (hb:InR b) (y:Int) (M:hold (a+b)=y) (w:World):
  Calls Tryz.prog 97 #[.int .i64 a,.int .i64 b] w fun e w'=>e = .returned (.int .i64 y)/\Below w.heap.size w w':=by
 have E:Hid (hold (a+b)=y):=M;clear M;go_enter Tryz.func97,Tryz.ntmps97;go_wp2_with fail
 refine (d_e a R _).mono ?_;rintro e w1 ⟨v,rfl,Z,A⟩;go_wp2_with fail
 refine (d_e b hb _).mono ?_;rintro e w2 ⟨u,rfl,hu,J⟩;have H:(a.natAbs:Int)+(b.natAbs:Int) < 115792089237316195423570985008687907853269984665640564039457584007913129639936:=by unfold InR at R hb;omega
 go_wp2_with fail
 refine (k_I v u _ _ _ _ Z hu H _).mono ?_;rintro e w3 ⟨z,r,m,rfl,hz,hs,I⟩;clear H;go_wp2_with fail
 refine (d_4 z r m hz _).mono ?_;rintro e w4 ⟨rfl,L⟩;go_wp2;go_ret;refine ⟨ret_int ?_,?_⟩
 ·rw [g_s,g_s];exact E.out
 ·have O:=A.trans (J.mono A.size);have V:=O.trans (I.mono O.size);exact V.trans (L.mono V.size)
theorem r_Q (a b:Int) (O:InR a) (hb:InR b) (y:Int) (Z:hold (a - b)=y) (w:World):
  Calls Tryz.prog 98 #[.int .i64 a,.int .i64 b] w fun e w'=>e = .returned (.int .i64 y)/\Below w.heap.size w w':=by
 have E:Hid (hold (a - b)=y):=Z;clear Z;go_enter Tryz.func98,Tryz.ntmps98;go_wp2_with fail
 refine (d_e a O _).mono ?_;rintro e w1 ⟨v,rfl,hv,A⟩;go_wp2_with fail
 refine (d_e b hb _).mono ?_;rintro e w2 ⟨u,rfl,hu,J⟩;go_wp2_with fail
 refine (l_y u _ _ hu _).mono ?_;rintro e w5 ⟨t,rfl,ht,M⟩;have H:(a.natAbs:Int)+(b.natAbs:Int) < 115792089237316195423570985008687907853269984665640564039457584007913129639936:=by unfold InR at O hb;omega
 go_wp2_with fail
 refine (k_I v t _ _ _ _ hv ht H _).mono ?_;rintro e w3 ⟨z,r,m,rfl,hz,hs,I⟩;clear H;go_wp2_with fail
 refine (d_4 z r m hz _).mono ?_;rintro e w4 ⟨rfl,L⟩;go_wp2;go_ret;refine ⟨ret_int ?_,?_⟩
 ·rw [r_P,g_s,g_s,<- Int.sub_eq_add_neg];exact E.out
 ·have c1:=A.trans (J.mono A.size);have V:=c1.trans (M.mono c1.size);have R:=V.trans (I.mono V.size);exact R.trans (L.mono R.size)
theorem r_R (a:Int) (J:InR a) (y:Int) (H:hold (-a)=y) (w:World):
  Calls Tryz.prog 138 #[.int .i64 a] w fun e I=>e = .returned (.int .i64 y)/\Below w.heap.size w I:=by
 have E:Hid (hold (0 - a)=y):=by show _=_;rw [Int.zero_sub];exact H
 clear H;go_enter Tryz.func138,Tryz.ntmps138;go_wp2_with fail
 refine (r_Q 0 a (by unfold InR;omega) J y E.out _).mono ?_;rintro e L ⟨rfl,A⟩;go_wp2;go_ret;exact ⟨rfl,A⟩
theorem mul_ref (a b:Int) (O:InR a) (hb:InR b) (y:Int) (J:mulI a b=y) (w:World):
  Calls Tryz.prog 99 #[.int .i64 a,.int .i64 b] w fun e V=>e = .returned (.int .i64 y)/\Below w.heap.size w V:=by
 have E:Hid (mulI a b=y):=J;clear J;go_enter Tryz.func99,Tryz.ntmps99;go_wp2_with fail
 refine (i_G a b O hb _).mono ?_;rintro e w1 ⟨v,rfl,M,A⟩;go_wp2_with fail
 refine (g_3 v _ _ M _).mono ?_;rintro e Z ⟨u,rfl,R,I⟩;go_wp2_with fail
 refine (d_4 u _ _ R _).mono ?_;rintro e w3 ⟨rfl,H⟩;go_wp2;go_ret;refine ⟨ret_int ?_,?_⟩
 ·rw [<- E.out,show (4294967296:Int)=((4294967296:Nat):Int) from rfl,<- Int.natCast_mul,n_1];rfl
 ·have L:=A.trans (I.mono A.size);exact L.trans (H.mono L.size)
theorem l_A (n z:Bool) (w:World):
  Calls Tryz.prog 166 #[.bool n,.bool z] w fun e A=>e = .returned (.int .i64 (if z then 0 else lim n))/\A=w:=by
 cases n <;> cases z
 all_goals
  go_enter Tryz.func166,Tryz.ntmps166;go_wp2;go_ret;exact ⟨rfl,rfl⟩
theorem n_2 (a b:Int) (ha:InR a) (hb:InR b) (y:Int) (ey:k_2 a b=y) (w:World):
  Calls Tryz.prog 136 #[.int .i64 a,.int .i64 b] w fun e w'=>e = .returned (.int .i64 y)/\Below w.heap.size w w':=by
 have E:Hid (k_2 a b=y):=ey;clear ey;by_cases H:b=0
 ·have V:(b==0)=true:=by simpa using H
  have L:Hid (b=0):=H;clear H;obtain ⟨yy,A⟩:∃ t,t=if (a==0) then 0 else lim (decide (a < 0)):=⟨_,rfl⟩
  have EY:Hid (yy=y):=by
   show _=_;rw [<- E.out,L.out,A];unfold k_2 l_7 lim;by_cases Z:a=0
   ·simp [Z]
   ·by_cases h2:a < 0 <;> simp [Z,h2]
  go_enter Tryz.func136,Tryz.ntmps136;go_wp2_with fail
  have c:=l_A (decide (a < 0)) (a==0) w;rw [<- A] at c;clear A;refine c.mono ?_;rintro e w1 ⟨rfl,rfl⟩;go_wp2;go_ret;exact ⟨ret_int EY.out,Below.refl _ _⟩
 ·have V:(b==0)=false:=by simpa using H
  have L:Hid (b≠0):=H;clear H;go_enter Tryz.func136,Tryz.ntmps136;go_wp2_with fail
  refine (d_e a ha _).mono ?_;rintro e w1 ⟨v,rfl,hv,I⟩;have J:(a.natAbs:Int)*4294967296 < 115792089237316195423570985008687907853269984665640564039457584007913129639936:=by unfold InR at ha;omega
  go_wp2_with fail
  refine (g_r v _ _ hv J _).mono ?_;rintro e w2 ⟨u,rfl,hu,O⟩;clear J;go_wp2_with fail
  refine (j_A u _ _ b hu hb L.out _).mono ?_;rintro e w3 ⟨t,rfl,ht,M⟩;go_wp2_with fail
  refine (d_4 t _ _ ht _).mono ?_;rintro e w4 ⟨rfl,R⟩;go_wp2;go_ret;refine ⟨ret_int ?_,?_⟩
  ·rw [<- E.out,show (a.natAbs:Int)*4294967296=((a.natAbs*4294967296:Nat):Int) from rfl,n_1];unfold k_2;rw [if_neg L.out];rfl
  ·have c1:=I.trans (O.mono I.size);have c2:=c1.trans (M.mono c1.size);exact c2.trans (R.mono c2.size)
end Go.Proofs.YtkfpainpomobfaaGreatDoor.Rf
namespace Go.Proofs.YtkfpainpomobfaaGreatDoor.Wd
open Go.RowKit List World Nat
/-- An empty slice of the call's own. -/
def Emp (k:IntKind) (e:TypeId) (B:Nat) (v:Value) (W:World):Prop:=∃ g,v = .slice (some ⟨g,0,none⟩) 0 0/\OwnK k e W B v []
theorem t_s {P:Program} {t e:TypeId} {k:IntKind} {b:Nat} (T:NumT P t e k b) (J:b<=8) (R:TypeId) (W:World) (B g:Nat) (h0:OwnK k e W B (.slice (some ⟨g,0,none⟩) 0 0) []) (hB:B<=W.heap.size) (v:Value) (l:List Int) (hv:Nums k W v l) (hl:l.length<=1073741824):
  ∃ E A,(Builtin.append_ #[t,t] R #[.slice (some ⟨g,0,none⟩) 0 0,v]).run P W = .ok E A/\OwnK k e A B E l/\Bw W A:=by
 obtain ⟨V,M,O,H,I⟩:=d_r T;rcases hv with ⟨rfl,rfl⟩|⟨ad,c,rfl,hc⟩
 ·exact ⟨_,W,run_append_owned_none W B t R e V 1 T.ht M _ _ _ h0,h0,Below.refl _ _⟩
 ·by_cases h:l = []
  ·subst h;refine ⟨.slice (some ⟨g,0,none⟩) 0 0,W,?_,h0,Below.refl _ _⟩;have hf:=run_firstCells_some (P:=P) W V.size 0 ad 0 c [] (by simp) (fun j u L=>by simp at L);simp [Builtin.append_,run_underlying T.ht,sizeOf,typeInfo,M,Builtin.lenOf,hf,storeCells]
  ·have aa:0 < l.length:=by cases l with|nil=>exact absurd rfl h|cons a l=>simp
   have hm:(0+l.length)*b<=1073741824*8:=Nat.mul_le_mul (by omega) J;obtain ⟨E,A,hr,ho,Z⟩:=run_append_arg_grows (P:=P) (w:=W) t R e V (.int k 0) 1 b T.ht M O H I rfl (by decide) ⟨g,0,none⟩ 0 0 [] rfl (fun j u L=>by simp at L) ad l.length c (a_N k l) (by simp [a_N]) hc (by omega) (by unfold maxLen;omega) (by omega);refine ⟨E,A,hr,?_,Below.grown (Below.refl _ _) Z (Nat.le_refl _) (fun j hj=>by cases hj)⟩;rw [Nat.zero_add,nil_append] at ho;exact OwnK.low (B:=W.heap.size) ho hB
theorem j_B (p p2 p3:Option Addr) (n c n2 c2 n3 c3:Nat) (d x d':List Int) (hd:RI d) (aa:RI d') (w:World) (O:Nums .i64 w (.slice p n c) d) (h2:Nums .i64 w (.slice p2 n2 c2) x) (h3:Nums .i64 w (.slice p3 n3 c3) d') (aj:(isP d x/\goodN (ntl d'))/\a_f (ntl d')=x.length):
  Calls Tryz.prog 79 #[.agg #[.slice p n c,.slice p2 n2 c2],.slice p3 n3 c3] w fun e w'=>∃ v',e = .returned (.tuple #[v',.int .i64 (l_c d x d')])/\TRes w' w.heap.size v' (m_p d x d') (o_T d x d')/\Bw w w':=by
 have cA:=fun W (I:Bw w W)=>c_6 _ _ d x hd W (O.up I) (h2.up I);have cB:=fun W (I:Bw w W)=>b_g _ d' aa W (h3.up I);have cZ:=fun W (I:Bw w W)=>e_G _ d' aa W (h3.up I);have HN:Hid (Nums .i64 w (.slice p n c) d/\Nums .i64 w (.slice p2 n2 c2) x/\Nums .i64 w (.slice p3 n3 c3) d'):=⟨O,h2,h3⟩
 obtain ⟨_,_,_,e4,HX⟩:=h2.lst;cases e4;unfold l_c m_p o_T;obtain ⟨⟨hp,Z⟩,hN⟩:=aj;rw [decide_eq_true hp] at cA;rw [decide_eq_true Z] at cB;rw [a_T Z] at cZ;rw [if_pos ⟨hp,Z⟩];have M:x.length<=4096:=by rw [hp.2];exact hp.1.2.2
 have HP:Hid (isP d x/\goodN (ntl d')/\x.length<=4096):=⟨hp,Z,M⟩
 rw [if_pos hN,if_pos ⟨⟨hp,Z⟩,hN⟩,if_pos ⟨⟨hp,Z⟩,hN⟩];rw [hN,HX.1] at cZ;clear hN O h2 h3 hd aa hp Z M;go_enter Tryz.func79,Tryz.ntmps79;go_wp2_with fail
 generalize ac:alloc _ _=W0;obtain ⟨ag,XA,XR⟩:=i_M ac;clear ac;refine (cA W0 ag).mono ?_;rintro e w1 ⟨rfl,R⟩;have H:=b_5 (a_c ag R) R;clear R;go_wp2_with fail
 refine (cB w1 H.1).mono ?_;rintro e w2 ⟨rfl,rfl⟩;clear cB;obtain ⟨a0,a1,_,_⟩:=XA.out.up H.2;have cz:∀ m,Calls Tryz.prog 66 #[.slice p3 n3 c3] (w2.drewN m) fun e w'=>e = .returned (.int .i64 (n2:Int))/\w'=w2.drewN m:=fun m=>cZ _ (a_i H.1 m);go_wp2_with fail
 go_quiet (exact Calls.quiet_of_same (cz _))
 generalize ah:drewN w2 nq=w5;have E:Hid (Bw w w5/\Bw W0 w5):=by rw [<- ah];exact ⟨a_i H.1 nq,a_i H.2 nq⟩
 clear a0 a1 ah;obtain ⟨a0,a1,_,_⟩:=XA.out.up E.2;have ab:Hid (∀ W,Bw w5 W->Nums .i64 W (.slice p3 n3 c3) d'/\d'.length<=1073741824):=fun W I=>⟨HN.2.2.up (a_c E.1 I),by have:=HP.2.1.1;rw [a_O] at this;omega⟩
 have ae:Hid (∀ W,Bw w5 W->Nums .i64 W (.slice p2 n2 c2) x/\x.length<=1073741824):=fun W I=>⟨HN.2.1.up (a_c E.1 I),by have:=HP.2.2;omega⟩
 have z0:=a_b a0;haveI:Nonempty World:=⟨w⟩
 clear cz cZ cA;go_wp2_with fail
 refine rel [⟨0,22,Emp .i64 3 w5.heap.size⟩,⟨2,24,fun v W=>OwnK .i64 3 W w5.heap.size v d'⟩,⟨3,25,Emp .i64 48 w5.heap.size⟩,⟨6,28,fun v W=>OwnK .i64 48 W w5.heap.size v x⟩] 7 30 (by kernel_rfl) rfl rfl (by kernel_rfl) (by rfl) ?_ ?_
 ·intro e he v W W' h hb;simp only [mem_cons,not_mem_nil,or_false] at he;rcases he with rfl|rfl|rfl|rfl
  ·obtain ⟨g,e1,O⟩:=h;exact ⟨g,e1,O.up hb⟩
  ·exact OwnK.up h hb
  ·obtain ⟨g,e1,O⟩:=h;exact ⟨g,e1,O.up hb⟩
  ·exact OwnK.up h hb
 apply Exists.intro;refine ⟨fun x=>?_,?_,?_⟩
 ·simp only [take_succ_cons,take_zero];refine e_j rfl rfl ?_ ?_
  ·intro F hF hf A;have hFc:=hF.cell;have hFf:=hF.frozen;simp [a_j,a_e,go_sem];exact ⟨⟨(F A).heap.size,rfl,(b_b (k:=.i64) (e:=3) (F A) [] 0 rfl (by decide)).low (hF.below A).size⟩,a_a _ _⟩
  (try simp only [a_v])
  apply c_w;rfl;rfl
  ·intro F hF hf K hK hFc hFf
   go_big_quiet_op
   exact hK
  (try simp only [a_v])
  refine e_j rfl rfl ?_ ?_
  ·intro F hF hf A;have hFc:=hF.cell;have hFf:=hF.frozen;have h9:=hf _ mS (by rfl) A;obtain ⟨g9,V,o9⟩:=h9;simp only [] at V;rw [V] at o9;obtain ⟨v8,w8,hr,ho,hb⟩:=t_s e_g (by decide) 22 (F A) w5.heap.size g9 o9 (hF.below A).size _ _ (ab.out (F A) (hF.below A)).1 (ab.out (F A) (hF.below A)).2;simp [a_j,a_e,execOp,resolve,invoke,builtin,Act.eval,V,hr,Result.andThen];exact ⟨ho,hb⟩
  (try simp only [a_v])
  refine e_j rfl rfl ?_ ?_
  ·intro F hF hf A;have hFc:=hF.cell;have hFf:=hF.frozen;simp [a_j,a_e,go_sem];exact ⟨⟨(F A).heap.size,rfl,(b_b (k:=.i64) (e:=48) (F A) [] 0 rfl (by decide)).low (hF.below A).size⟩,a_a _ _⟩
  iterate 2
   (try simp only [a_v])
   apply c_w;rfl;rfl
   ·intro F hF hf K hK hFc hFf
    go_big_quiet_op
    exact hK
  (try simp only [a_v])
  refine e_j rfl rfl ?_ ?_
  ·intro F hF hf A;have hFc:=hF.cell;have hFf:=hF.frozen;have h9:=hf _ (mC (mC mS)) (by rfl) A;obtain ⟨g9,V,o9⟩:=h9;simp only [] at V;rw [V] at o9;obtain ⟨v8,w8,hr,ho,hb⟩:=t_s l_5 (by decide) 26 (F A) w5.heap.size g9 o9 (hF.below A).size _ _ (ae.out (F A) (hF.below A)).1 (ae.out (F A) (hF.below A)).2;simp [a_j,a_e,execOp,resolve,invoke,builtin,Act.eval,V,hr,Result.andThen];exact ⟨ho,hb⟩
  (try simp only [a_v])
  refine b_A ?_;exact rfl
 ·exact fun x=>rfl
 ·intro w6 xs af hf;simp only [drop_succ_cons,drop_zero];have L:=hf _ (mC mS);have J:=hf _ (mC (mC (mC mS)));obtain ⟨fa,ai⟩:∃ fa,xs 2=fa:=⟨_,rfl⟩
  obtain ⟨fb,ad⟩:∃ fb,xs 6=fb:=⟨_,rfl⟩
  simp only [ai,ad] at L J ⊢;clear ai ad hf;obtain ⟨pa,na,ca,rfl,_⟩:=L.nums.lst;obtain ⟨pb,nb,cb,rfl,_⟩:=J.nums.lst
  have HF:Hid (TRes (set2 w6 (w.heap.size+1) (.slice pa na ca) (.slice pb nb cb)) w.heap.size (.agg #[.slice pa na ca,.slice pb nb cb]) d' x/\Bw w (set2 w6 (w.heap.size+1) (.slice pa na ca) (.slice pb nb cb))):=by
   exact ⟨(TRes.set L J (Nat.lt_of_lt_of_le (a_b XR.1) E.2.size)).low E.1.size,a_q (a_c E.1 af) _ (by omega) _ _⟩
  clear L J a0 a1 z0;have xr:=(XR.out.up (a_c E.2 af))
  have cf:=xr.set (.slice pa na ca) (.slice pb nb cb);obtain ⟨r0,r1,r2,r3⟩:=xr;obtain ⟨y0,y1,_,_⟩:=cf;go_wp2;exact bodyPost_ret (v:=.tuple #[.agg #[.slice pa na ca,.slice pb nb cb],.int .i64 0]) (by simp [results,Tryz.results79,go_sem,y0,y1]) rfl ⟨_,rfl,HF.out⟩
end Go.Proofs.YtkfpainpomobfaaGreatDoor.Wd
