/- The reference's halving, rounded: as whole numbers. · The reference's product of two whole numbers. · The reference's sum, difference, product, quotient of two Fix: as whole numbers. -/
import Derived.Test.YtpdkkcnmgiihcaaGreatDoorP27
import Derived.Test.YtpdkkcnmgiihcaaGreatDoorP05
import Derived.Test.YtpdkkcnmgiihcaaGreatDoorP26
import Derived.Test.YtpdkkcnmgiihcaaGreatDoorP06
import Derived.Test.YtpdkkcnmgiihcaaGreatDoorP01
set_option linter.unusedVariables false
set_option linter.unusedSimpArgs false
set_option maxHeartbeats 16000000
set_option maxRecDepth 16000
namespace Go.Proofs.YtpdkkcnmgiihcaaGreatDoor.Rf
open Go.RowKit Fx
attribute [local go_sem] setCell_drewN alloc_drewN
theorem lp_bit (y:Int) (m:Nat):y % 2 ^ m / 2 ^ m % 2=0:=by
 rw [Int.ediv_eq_zero_of_lt (Int.emod_nonneg _ (Int.ne_of_gt (two_pos m))) (Int.emod_lt_of_pos _ (two_pos m))]
 rfl
theorem lp_step (y:Int) (m:Nat):y % 2 ^ (m+1)=y % 2 ^ m+y / 2 ^ m % 2*2 ^ m:=by
 have h1:=Int.emod_add_mul_ediv y (2 ^ m)
 have h2:=Int.emod_add_mul_ediv y (2 ^ (m+1))
 have e:(2:Int) ^ (m+1)=2 ^ m*2:=Int.pow_succ 2 m
 have h3:y / 2 ^ (m+1)=y / 2 ^ m / 2:=by rw [div_two y m 1];rfl
 rw [h3,e] at h2
 rw [e]
 generalize (2:Int) ^ m=P at *
 generalize y / P=q at *
 have h4:P*2*(q / 2)+q % 2*P=P*q:=by
  have:q=2*(q / 2)+q % 2:=by omega
  conv=>rhs;rw [this]
  rw [Int.mul_add,← Int.mul_assoc,Int.mul_comm P (q % 2)]
 omega
/-- Whether a quotient by a power of two is rounded up, told by its bits. -/
theorem rq_down (x:Int) (k:Nat) (hb:x / 2 ^ k % 2=0):rqI x (2 ^ (k+1))=x / 2 ^ (k+1):=by
 have h:=lp_step x k
 have hp:=two_pos k
 have e:(2:Int) ^ (k+1)=2 ^ k*2:=Int.pow_succ 2 k
 have hl:=Int.emod_lt_of_pos x hp
 have hn:=Int.emod_nonneg x (Int.ne_of_gt hp)
 rw [hb] at h
 unfold rqI
 rw [if_neg (by rw [h];omega)]
theorem rq_up (x:Int) (k:Nat) (hb:x / 2 ^ k % 2=1) (more:Bool) (hm:more=true↔(x / 2 ^ (k+1) % 2=1∨x % 2 ^ k≠0)):rqI x (2 ^ (k+1))=x / 2 ^ (k+1)+(if more then 1 else 0):=by
 have h:=lp_step x k
 have hp:=two_pos k
 have e:(2:Int) ^ (k+1)=2 ^ k*2:=Int.pow_succ 2 k
 have hl:=Int.emod_lt_of_pos x hp
 have hn:=Int.emod_nonneg x (Int.ne_of_gt hp)
 rw [hb] at h
 unfold rqI
 cases more
 ·have hm':¬ (x / 2 ^ (k+1) % 2=1∨x % 2 ^ k≠0):=fun c=>by simpa using hm.2 c
  rw [if_neg (by rw [h];omega)]
  simp
 ·have hm':=hm.1 rfl
  rw [if_pos (by rw [h];omega)]
  simp
theorem half_lt (x:Int) (k:Nat) (h0:0≤x) (h1:x < 2 ^ 256):x / 2 ^ (k+1) < 2 ^ 256 - 1:=by
 have h:=half_step x k
 have h2:x / 2 ^ k≤x:=Int.ediv_le_self _ h0
 have h3:0≤x / 2 ^ (k+1):=Int.ediv_nonneg h0 (Int.le_of_lt (two_pos (k+1)))
 omega
theorem more_step {r0 x b2:Int} {l:Nat} {mo:Bool} (h:Hid (false=true↔(r0 % 2=1∨x % 2 ^ l≠0))) (hb:Hid (x / 2 ^ l % 2=b2)) (hm:mo=true↔b2=1):Hid (mo=true↔(r0 % 2=1∨x % 2 ^ (l+1)≠0)):=by
 have h':=h.out
 have hb':=hb.out
 have hp:=two_pos l
 show _↔_
 rw [hm,lp_step,hb']
 have hz:¬ (r0 % 2=1∨x % 2 ^ l≠0):=fun c=>by simpa using h'.2 c
 have hx0:x % 2 ^ l=0:=by omega
 rw [hx0]
 have hb2:b2=0∨b2=1:=by omega
 rcases hb2 with rfl|rfl <;> simp <;> omega
theorem more_stay {r0 x:Int} {l:Nat} (h:Hid (true=true↔(r0 % 2=1∨x % 2 ^ l≠0))):Hid (true=true↔(r0 % 2=1∨x % 2 ^ (l+1)≠0)):=by
 have h':=h.out.1 rfl
 have hp:=two_pos l
 have hn:=Int.emod_nonneg x (Int.ne_of_gt hp)
 have hm:0≤x / 2 ^ l % 2*2 ^ l:=Int.mul_nonneg (by omega) (by omega)
 show _↔_
 rw [lp_step]
 refine ⟨fun _=>?_,fun _=>rfl⟩
 rcases h' with h'|h'
 ·exact Or.inl h'
 ·right;omega
theorem Halved_low (s:Bool) (a0 a1 a2 a3:Int) (p0:U a0) (p1:U a1) (p2:U a2) (p3:U a3) (n:Nat) (nn:Int) (en:Hid (nn=(n:Int)∧1≤n)) (hnn:1≤nn∧nn≤255) (x:Int) (hx:Hid (PS 4 a0 a1 a2 a3=x∧0≤x∧x < 2 ^ 256)) (w:World):
  Calls Tryz.prog 89 #[.agg #[.bool s,.int .u64 a0,.int .u64 a1,.int .u64 a2,.int .u64 a3],.int .i64 nn] w fun e w'=>∃ v,e = .returned v∧IsN v s (rqI x (2 ^ n))∧Below w.heap.size w w':=by
 go_enter Tryz.func89,Tryz.ntmps89
 go_wp2
 go_loopw [6] (fun v wr=>∃ (m:Nat) (i r0 r1 r2 r3:Int),v = .int .i64 i∧Hid (i - nn=(m:Int))∧nn≤i∧i≤256∧m≤256∧Hid (PS 4 r0 r1 r2 r3=x / 2 ^ n % 2 ^ m)∧
   Mem (w.heap.size+1+1) ((w.alloc (.cells #[.bool s,.int .u64 a0,.int .u64 a1,.int .u64 a2,.int .u64 a3] 109)).alloc (.cells #[.bool false,.int .u64 0,.int .u64 0,.int .u64 0,.int .u64 0] 109)) (w.heap.size+1+1) s r0 r1 r2 r3 wr) (fun v _=>(256 - intOf v).toNat)
 case atStart=>
  refine ⟨0,nn,0,0,0,0,rfl,by show nn - nn=_;omega,by omega,by omega,by omega,?_,?_⟩
  ·show PS 4 0 0 0 0=x / 2 ^ n % 2 ^ 0
   rw [PS4,show (2:Int) ^ 0=1 from rfl]
   omega
  ·exact ⟨by go_grown,by omega,by simp,by simp [go_sem],by simp [go_sem],by simp [go_sem],by simp [go_sem],by simp [go_sem],fun o=>by simp [go_sem],by unfold U;omega,by unfold U;omega,by unfold U;omega,by unfold U;omega⟩
 case round=>
  obtain ⟨m,i,r0,r1,r2,r3,rfl,hij,hni,hi,hm256,hPS,hM⟩:=hrel
  have hcell:=(bcell hM.below).1
  have hfroz:=(bcell hM.below).2
  have hc0:=hM.c0
  have hc1:=hM.c1
  have hc2:=hM.c2
  have hc3:=hM.c3
  have hc4:=hM.c4
  have hfz:=hM.fz
  by_cases hlt:i < 256
  ·obtain ⟨bt,ebt⟩:∃ b,b=PS 4 a0 a1 a2 a3 / 2 ^ (n+m) % 2:=⟨_,rfl⟩
   have hbit:Hid (x / 2 ^ n / 2 ^ m % 2=bt):=by show _=_;rw [← div_two,← hx.out.1,ebt]
   have HB:Hid (bt=PS 4 a0 a1 a2 a3 / 2 ^ (n+m) % 2):=ebt
   have hb01:bt=0∨bt=1:=by omega
   clear ebt
   go_wp2_with fail
   refine (bit_n a0 a1 a2 a3 p0 p1 p2 p3 (n+m) (by have:=hij.out;have:=en.out;omega) _ bt (by have:=hij.out;have:=en.out;omega) HB.out _).mono ?_
   rintro e w1 ⟨rfl,hb⟩
   have hM1:=hM.up hb
   clear hcell hfroz hc0 hc1 hc2 hc3 hc4 hfz
   have hcell:=(bcell hM1.below).1
   have hfroz:=(bcell hM1.below).2
   have hc0:=hM1.c0
   have hc1:=hM1.c1
   have hc2:=hM1.c2
   have hc3:=hM1.c3
   have hc4:=hM1.c4
   have hfz:=hM1.fz
   rcases hb01 with rfl|rfl
   ·go_wp2
    go_roundw
    case rel=>exact ⟨m+1,i+1,r0,r1,r2,r3,rfl,by have:=hij.out;show i+1 - nn=_;omega,by omega,by omega,by have:=hij.out;omega,(by show _=_;rw [lp_step,hbit.out,← hPS.out];omega),hM1⟩
    case measure=>simp [intOf];omega
   ·obtain ⟨tt,ett⟩:∃ tt,tt=m % 64:=⟨_,rfl⟩
    have htt:tt < 64:=by omega
    have ETT:Hid (tt=m % 64):=ett
    clear ett
    have hmlt:m < 256:=by have:=hij.out;omega
    have hq:m / 64=0∨m / 64=1∨m / 64=2∨m / 64=3:=by omega
    rcases hq with hq|hq|hq|hq
    ·have ett:=ETT.out
     have hi1:(i - nn) % 64=(tt:Int):=by have:=hij.out;omega
     have hi2:(i - nn) / 64=0:=by have:=hij.out;omega
     have hbz:r0 / 2 ^ tt % 2=0:=by
      rw [← (limb_bit r0 r1 r2 r3 hM.u0 hM.u1 hM.u2 hM.u3 tt htt).1,show 64*0+tt=m by omega,hPS.out]
      exact lp_bit _ _
     have hor:=or_set r0 tt hM.u0 htt hbz
     have hor1:=hor.1
     have hwp:=wrap_pow tt htt
     have HM:Hid (m=64*0+tt):=by show _=_;omega
     clear hbz ett hq
     go_wp2
     go_roundw
     case rel=>exact ⟨m+1,i+1,(r0+2 ^ tt),r1,r2,r3,rfl,by have:=hij.out;show i+1 - nn=_;omega,by omega,by omega,by omega,set_num0 hPS tt m HM.out (by rw [lp_step,hbit.out];omega),hM1.set0 hor.2⟩
     case measure=>simp [intOf];omega
    ·have ett:=ETT.out
     have hi1:(i - nn) % 64=(tt:Int):=by have:=hij.out;omega
     have hi2:(i - nn) / 64=1:=by have:=hij.out;omega
     have hbz:r1 / 2 ^ tt % 2=0:=by
      rw [← (limb_bit r0 r1 r2 r3 hM.u0 hM.u1 hM.u2 hM.u3 tt htt).2.1,show 64*1+tt=m by omega,hPS.out]
      exact lp_bit _ _
     have hor:=or_set r1 tt hM.u1 htt hbz
     have hor1:=hor.1
     have hwp:=wrap_pow tt htt
     have HM:Hid (m=64*1+tt):=by show _=_;omega
     clear hbz ett hq
     go_wp2
     go_roundw
     case rel=>exact ⟨m+1,i+1,r0,(r1+2 ^ tt),r2,r3,rfl,by have:=hij.out;show i+1 - nn=_;omega,by omega,by omega,by omega,set_num1 hPS tt m HM.out (by rw [lp_step,hbit.out];omega),hM1.set1 hor.2⟩
     case measure=>simp [intOf];omega
    ·have ett:=ETT.out
     have hi1:(i - nn) % 64=(tt:Int):=by have:=hij.out;omega
     have hi2:(i - nn) / 64=2:=by have:=hij.out;omega
     have hbz:r2 / 2 ^ tt % 2=0:=by
      rw [← (limb_bit r0 r1 r2 r3 hM.u0 hM.u1 hM.u2 hM.u3 tt htt).2.2.1,show 64*2+tt=m by omega,hPS.out]
      exact lp_bit _ _
     have hor:=or_set r2 tt hM.u2 htt hbz
     have hor1:=hor.1
     have hwp:=wrap_pow tt htt
     have HM:Hid (m=64*2+tt):=by show _=_;omega
     clear hbz ett hq
     go_wp2
     go_roundw
     case rel=>exact ⟨m+1,i+1,r0,r1,(r2+2 ^ tt),r3,rfl,by have:=hij.out;show i+1 - nn=_;omega,by omega,by omega,by omega,set_num2 hPS tt m HM.out (by rw [lp_step,hbit.out];omega),hM1.set2 hor.2⟩
     case measure=>simp [intOf];omega
    ·have ett:=ETT.out
     have hi1:(i - nn) % 64=(tt:Int):=by have:=hij.out;omega
     have hi2:(i - nn) / 64=3:=by have:=hij.out;omega
     have hbz:r3 / 2 ^ tt % 2=0:=by
      rw [← (limb_bit r0 r1 r2 r3 hM.u0 hM.u1 hM.u2 hM.u3 tt htt).2.2.2,show 64*3+tt=m by omega,hPS.out]
      exact lp_bit _ _
     have hor:=or_set r3 tt hM.u3 htt hbz
     have hor1:=hor.1
     have hwp:=wrap_pow tt htt
     have HM:Hid (m=64*3+tt):=by show _=_;omega
     clear hbz ett hq
     go_wp2
     go_roundw
     case rel=>exact ⟨m+1,i+1,r0,r1,r2,(r3+2 ^ tt),rfl,by have:=hij.out;show i+1 - nn=_;omega,by omega,by omega,by omega,set_num3 hPS tt m HM.out (by rw [lp_step,hbit.out];omega),hM1.set3 hor.2⟩
     case measure=>simp [intOf];omega
  ·obtain ⟨k,ek⟩:∃ k,n=k+1:=⟨n - 1,by have:=en.out;omega⟩
   have hq0:Hid (PS 4 r0 r1 r2 r3=x / 2 ^ n∧n=k+1):=by
    refine ⟨?_,ek⟩
    rw [hPS.out]
    apply Int.emod_eq_of_lt (Int.ediv_nonneg hx.out.2.1 (Int.le_of_lt (two_pos n)))
    apply Int.ediv_lt_of_lt_mul (two_pos n)
    rw [← Int.pow_add,show m+n=256 by have:=hij.out;have:=en.out;omega]
    exact hx.out.2.2
   clear ek
   obtain ⟨bt,ebt⟩:∃ b,b=PS 4 a0 a1 a2 a3 / 2 ^ k % 2:=⟨_,rfl⟩
   have hbit:Hid (x / 2 ^ k % 2=bt):=by show _=_;rw [← hx.out.1,ebt]
   have HB:Hid (bt=PS 4 a0 a1 a2 a3 / 2 ^ k % 2):=ebt
   have hb01:bt=0∨bt=1:=by omega
   clear ebt
   have hz:(nn==0)=false:=by simp;omega
   go_wp2_with fail
   refine (bit_n a0 a1 a2 a3 p0 p1 p2 p3 k (by have:=hq0.out;have:=en.out;omega) _ bt (by have:=hq0.out;have:=en.out;omega) HB.out _).mono ?_
   rintro e w1 ⟨rfl,hb⟩
   have hM1:=hM.up hb
   clear hcell hfroz hc0 hc1 hc2 hc3 hc4 hfz
   have hcell:=(bcell hM1.below).1
   have hfroz:=(bcell hM1.below).2
   have hc0:=hM1.c0
   have hc1:=hM1.c1
   have hc2:=hM1.c2
   have hc3:=hM1.c3
   have hc4:=hM1.c4
   have hfz:=hM1.fz
   rcases hb01 with rfl|rfl
   ·have KQ:Hid (rqI x (2 ^ n)=x / 2 ^ n):=by show _=_;rw [hq0.out.2];exact rq_down x k hbit.out
    go_wp2
    obtain ⟨f0,f1,f2,f3,f4⟩:=five w1 (w.heap.size+1) (.bool s) (.int .u64 r0) (.int .u64 r1) (.int .u64 r2) (.int .u64 r3) (by rw [(bcell hM1.below).1 _ _ (by simp)];simp [go_sem];rfl) (by rw [(bcell hM1.below).1 _ _ (by simp)];simp [go_sem];rfl) (by rw [(bcell hM1.below).1 _ _ (by simp)];simp [go_sem];rfl) (by rw [(bcell hM1.below).1 _ _ (by simp)];simp [go_sem];rfl) (by rw [(bcell hM1.below).1 _ _ (by simp)];simp [go_sem];rfl)
    have hB:Below w.heap.size w w1:=Below.trans (by go_grown) (hM1.below.mono (by omega))
    refine bodyPost_ret (v:=.agg #[.bool s,.int .u64 r0,.int .u64 r1,.int .u64 r2,.int .u64 r3]) (by simp [results,Tryz.results89,go_sem,f0,f1,f2,f3,f4]) rfl ⟨_,rfl,⟨r0,r1,r2,r3,rfl,hM1.u0,hM1.u1,hM1.u2,hM1.u3,by rw [KQ.out];exact hq0.out.1⟩,?_⟩
    exact Below.setCell (Below.setCell (Below.setCell (Below.setCell (Below.setCell hB (by simp) _) (by simp) _) (by simp) _) (by simp) _) (by simp) _
   ·have hand:bits .and .u64 r0 1=r0 % 2:=and_one_u64 r0 hM.u0.1 (by have:=hM.u0.2;omega)
    have hr0:0≤r0 % 2∧r0 % 2≤1:=by omega
    go_wp2
    go_loopw [7,8] (fun u v wr2=>∃ (l:Nat) (i2:Int) (more:Bool),v = .int .i64 i2∧u = .bool more∧Hid (i2=(l:Int))∧l≤k∧0≤i2∧i2≤nn - 1∧Hid (more=true↔(r0 % 2=1∨x % 2 ^ l≠0))∧
     Mem (w.heap.size+1+1) ((w.alloc (.cells #[.bool s,.int .u64 a0,.int .u64 a1,.int .u64 a2,.int .u64 a3] 109)).alloc (.cells #[.bool false,.int .u64 0,.int .u64 0,.int .u64 0,.int .u64 0] 109)) (w.heap.size+1+1) s r0 r1 r2 r3 wr2) (fun _ v _=>(nn - intOf v).toNat)
    case atStart=>
     refine ⟨0,0,_,rfl,rfl,rfl,by omega,by omega,by omega,?_,hM1⟩
     show _↔_
     rw [show (2:Int) ^ 0=1 from rfl,Int.emod_one]
     simp
    case round=>
     obtain ⟨l,i2,more,rfl,rfl,hil,hlk,hi20,hi2n,hmore,hM2⟩:=hrel
     clear hcell hfroz hc0 hc1 hc2 hc3 hc4 hfz
     have hcell:=(bcell hM2.below).1
     have hfroz:=(bcell hM2.below).2
     have hc0:=hM2.c0
     have hc1:=hM2.c1
     have hc2:=hM2.c2
     have hc3:=hM2.c3
     have hc4:=hM2.c4
     have hfz:=hM2.fz
     by_cases hlt2:i2 < nn - 1
     ·have hlk':l < k:=by have:=hil.out;have:=hq0.out;have:=en.out;omega
      cases more
      ·obtain ⟨b2,eb2⟩:∃ b,b=PS 4 a0 a1 a2 a3 / 2 ^ l % 2:=⟨_,rfl⟩
       have hbit2:Hid (x / 2 ^ l % 2=b2):=by show _=_;rw [← hx.out.1,eb2]
       have HB2:Hid (b2=PS 4 a0 a1 a2 a3 / 2 ^ l % 2):=eb2
       have hb012:b2=0∨b2=1:=by omega
       clear eb2
       go_wp2_with fail
       refine (bit_n a0 a1 a2 a3 p0 p1 p2 p3 l (by have:=hq0.out;have:=en.out;omega) _ b2 (by have:=hil.out;omega) HB2.out _).mono ?_
       rintro e w3 ⟨rfl,hb2⟩
       have hM3:=hM2.up hb2
       clear hcell hfroz hc0 hc1 hc2 hc3 hc4 hfz
       have hcell:=(bcell hM3.below).1
       have hfroz:=(bcell hM3.below).2
       have hc0:=hM3.c0
       have hc1:=hM3.c1
       have hc2:=hM3.c2
       have hc3:=hM3.c3
       have hc4:=hM3.c4
       have hfz:=hM3.fz
       rcases hb012 with rfl|rfl
       all_goals
        go_wp2
        go_roundw
        case rel=>exact ⟨l+1,i2+1,_,rfl,rfl,by have:=hil.out;show i2+1=_;omega,by omega,by omega,by omega,more_step hmore hbit2 (by simp),hM3⟩
        case measure=>simp [intOf];omega
      ·go_wp2
       go_roundw
       case rel=>exact ⟨l+1,i2+1,true,rfl,rfl,by have:=hil.out;show i2+1=_;omega,by omega,by omega,by omega,more_stay hmore,hM2⟩
       case measure=>simp [intOf];omega
     ·obtain rfl:l=k:=by have:=hil.out;have:=hq0.out;have:=en.out;omega
      have hodd:Hid (r0 % 2=x / 2 ^ n % 2):=by
       show _=_
       rw [← hq0.out.1,PS4]
       omega
      have hKQ:=fun (_:Unit)=>rq_up x l hbit.out more (by have h:=hmore.out;rw [hodd.out,hq0.out.2] at h;exact h)
      cases more
      ·have KQ:Hid (rqI x (2 ^ n)=x / 2 ^ n):=by
        show _=_
        have h:=hKQ ()
        rw [hq0.out.2,h]
        simp
       clear hKQ
       go_wp2
       obtain ⟨f0,f1,f2,f3,f4⟩:=five wr (w.heap.size+1) (.bool s) (.int .u64 r0) (.int .u64 r1) (.int .u64 r2) (.int .u64 r3) (by rw [(bcell hM2.below).1 _ _ (by simp)];simp [go_sem];rfl) (by rw [(bcell hM2.below).1 _ _ (by simp)];simp [go_sem];rfl) (by rw [(bcell hM2.below).1 _ _ (by simp)];simp [go_sem];rfl) (by rw [(bcell hM2.below).1 _ _ (by simp)];simp [go_sem];rfl) (by rw [(bcell hM2.below).1 _ _ (by simp)];simp [go_sem];rfl)
       have hB:Below w.heap.size w wr:=Below.trans (by go_grown) (hM2.below.mono (by omega))
       refine bodyPost_ret (v:=.agg #[.bool s,.int .u64 r0,.int .u64 r1,.int .u64 r2,.int .u64 r3]) (by simp [results,Tryz.results89,go_sem,f0,f1,f2,f3,f4]) rfl ⟨_,rfl,⟨r0,r1,r2,r3,rfl,hM2.u0,hM2.u1,hM2.u2,hM2.u3,by rw [KQ.out];exact hq0.out.1⟩,?_⟩
       exact Below.setCell (Below.setCell (Below.setCell (Below.setCell (Below.setCell hB (by simp) _) (by simp) _) (by simp) _) (by simp) _) (by simp) _
      ·have KQ:Hid (rqI x (2 ^ n)=x / 2 ^ n+1):=by
        show _=_
        have h:=hKQ ()
        rw [hq0.out.2,h]
        simp
       clear hKQ
       go_wp2_with fail
       refine (plus_low r0 r1 r2 r3 1 0 0 0 hM2.u0 hM2.u1 hM2.u2 hM2.u3 (by unfold U;omega) (by unfold U;omega) (by unfold U;omega) (by unfold U;omega) _).mono ?_
       rintro e w2 ⟨c0,c1,c2,c3,cr,rfl,v0,v1,v2,v3,hinv,hb3⟩
       have hM4:=hM2.up hb3
       have hM3:=(((hM4.set0 v0).set1 v1).set2 v2).set3 v3
       have hnum:Hid (PS 4 c0 c1 c2 c3=rqI x (2 ^ n)):=by
        show _=_
        have h:=hinv.out
        rw [hq0.out.1,BP4,PS4 1 0 0 0] at h
        rw [KQ.out]
        have hlt2:x / 2 ^ n < 2 ^ 256 - 1:=by
         rw [hq0.out.2]
         exact half_lt x l hx.out.2.1 hx.out.2.2
        have hc:0≤PS 4 c0 c1 c2 c3:=by rw [PS4];unfold U at *;omega
        omega
       clear hcell hfroz hc0 hc1 hc2 hc3 hc4 hfz
       have hcell:=(bcell hM4.below).1
       have hfroz:=(bcell hM4.below).2
       have hc0:=hM4.c0
       have hc1:=hM4.c1
       have hc2:=hM4.c2
       have hc3:=hM4.c3
       have hc4:=hM4.c4
       have hfz:=hM4.fz
       have hd0:=hM3.c0
       have hd1:=hM3.c1
       have hd2:=hM3.c2
       have hd3:=hM3.c3
       have hd4:=hM3.c4
       go_wp2
       obtain ⟨f0,f1,f2,f3,f4⟩:=five ((((w2.setCell ⟨w.heap.size+1+1,1,none⟩ (.int .u64 c0)).setCell ⟨w.heap.size+1+1,2,none⟩ (.int .u64 c1)).setCell ⟨w.heap.size+1+1,3,none⟩ (.int .u64 c2)).setCell ⟨w.heap.size+1+1,4,none⟩ (.int .u64 c3)) (w.heap.size+1) (.bool s) (.int .u64 c0) (.int .u64 c1) (.int .u64 c2) (.int .u64 c3) (by rw [(bcell hM3.below).1 _ _ (by simp)];simp [go_sem];rfl) (by rw [(bcell hM3.below).1 _ _ (by simp)];simp [go_sem];rfl) (by rw [(bcell hM3.below).1 _ _ (by simp)];simp [go_sem];rfl) (by rw [(bcell hM3.below).1 _ _ (by simp)];simp [go_sem];rfl) (by rw [(bcell hM3.below).1 _ _ (by simp)];simp [go_sem];rfl)
       have hB:Below w.heap.size w ((((w2.setCell ⟨w.heap.size+1+1,1,none⟩ (.int .u64 c0)).setCell ⟨w.heap.size+1+1,2,none⟩ (.int .u64 c1)).setCell ⟨w.heap.size+1+1,3,none⟩ (.int .u64 c2)).setCell ⟨w.heap.size+1+1,4,none⟩ (.int .u64 c3)):=Below.trans (by go_grown) (hM3.below.mono (by omega))
       refine bodyPost_ret (v:=.agg #[.bool s,.int .u64 c0,.int .u64 c1,.int .u64 c2,.int .u64 c3]) (by simp [results,Tryz.results89,go_sem,f0,f1,f2,f3,f4]) rfl ⟨_,rfl,⟨c0,c1,c2,c3,rfl,hM3.u0,hM3.u1,hM3.u2,hM3.u3,hnum.out⟩,?_⟩
       exact Below.setCell (Below.setCell (Below.setCell (Below.setCell (Below.setCell hB (by simp) _) (by simp) _) (by simp) _) (by simp) _) (by simp) _
end Go.Proofs.YtpdkkcnmgiihcaaGreatDoor.Rf
namespace Go.Proofs.YtpdkkcnmgiihcaaGreatDoor.Rf
open Go.RowKit Fx
attribute [local go_sem] setCell_drewN alloc_drewN
/-- Block b holds four words; below B all is as it was. -/
structure MemA (B:Nat) (W2:World) (b:Nat) (r0 r1 r2 r3:Int) (wr:World):Prop where
 below:Below B W2 wr
 le:B≤b
 lt:b < wr.heap.size
 c0:wr.cell? ⟨b,0,none⟩=some (.int .u64 r0)
 c1:wr.cell? ⟨b,1,none⟩=some (.int .u64 r1)
 c2:wr.cell? ⟨b,2,none⟩=some (.int .u64 r2)
 c3:wr.cell? ⟨b,3,none⟩=some (.int .u64 r3)
 fz:∀ o,wr.frozen? ⟨b,o,none⟩=false
 u0:U r0
 u1:U r1
 u2:U r2
 u3:U r3
theorem MemA.up {B:Nat} {W2 wr w1:World} {b:Nat} {r0 r1 r2 r3:Int} (h:MemA B W2 b r0 r1 r2 r3 wr) (hb:Below wr.heap.size wr w1):MemA B W2 b r0 r1 r2 r3 w1:=by
 obtain ⟨hc,hf⟩:=bcell hb
 have hl:wr.heap.size≤w1.heap.size:=hb.size
 have h1:=h.le
 have h2:=h.lt
 exact ⟨h.below.trans (hb.mono (by omega)),h.le,by omega,by rw [hc _ _ h2];exact h.c0,by rw [hc _ _ h2];exact h.c1,by rw [hc _ _ h2];exact h.c2,by rw [hc _ _ h2];exact h.c3,fun o=>by rw [hf _ _ h2];exact h.fz o,h.u0,h.u1,h.u2,h.u3⟩
theorem MemA.set {B:Nat} {W2 wr:World} {b:Nat} {r0 r1 r2 r3 v0 v1 v2 v3:Int} (h:MemA B W2 b r0 r1 r2 r3 wr) (h0:U v0) (h1:U v1) (h2:U v2) (h3:U v3):
  MemA B W2 b v0 v1 v2 v3 ((((wr.setCell ⟨b,0,none⟩ (.int .u64 v0)).setCell ⟨b,1,none⟩ (.int .u64 v1)).setCell ⟨b,2,none⟩ (.int .u64 v2)).setCell ⟨b,3,none⟩ (.int .u64 v3)):=by
 refine ⟨(((h.below.setCell h.le _).setCell h.le _).setCell h.le _).setCell h.le _,h.le,by simp only [World.size_setCell];exact h.lt,?_,?_,?_,?_,fun o=>by simp only [World.frozen?_setCell];exact h.fz o,h0,h1,h2,h3⟩
 ·rw [set_off (by omega),set_off (by omega),set_off (by omega)];exact set_same h.c0
 ·rw [set_off (by omega),set_off (by omega)];exact set_same (by rw [set_off (by omega)];exact h.c1)
 ·rw [set_off (by omega)];exact set_same (by rw [set_off (by omega),set_off (by omega)];exact h.c2)
 ·exact set_same (by rw [set_off (by omega),set_off (by omega),set_off (by omega)];exact h.c3)
theorem idx_0 (p q:Int) (W:World):Sem.run Tryz.prog (Instr.index 145 (.agg #[.int .u64 p,.int .u64 q]) (.int .i64 0)) W = .ok (.int .u64 p) W:=by
 simp [Instr.index,go_sem]
theorem idx_1 (p q:Int) (W:World):Sem.run Tryz.prog (Instr.index 145 (.agg #[.int .u64 p,.int .u64 q]) (.int .i64 1)) W = .ok (.int .u64 q) W:=by
 simp [Instr.index,go_sem]
attribute [local go_sem] idx_0 idx_1
def rem2 (k:Nat) (p q:Int):Int:=if k=0 then (p+q)*4294967296 else if k=1 then q*4294967296 else 0
theorem half_mul (a b:Int) (ha:0≤a∧a < 4294967296) (hb:0≤b∧b < 4294967296):0≤a*b∧a*b≤18446744065119617025:=by
 refine ⟨Int.mul_nonneg ha.1 hb.1,?_⟩
 have:=Int.mul_le_mul (show a≤4294967295 by omega) (show b≤4294967295 by omega) hb.1 (by omega)
 omega
theorem times_split (x y x0 x1 y0 y1:Int) (hx:x=x1*4294967296+x0) (hy:y=y1*4294967296+y0):
  x*y=x0*y0+x1*y1*18446744073709551616+(x0*y1+x1*y0)*4294967296:=by
 rw [hx,hy,Int.add_mul,Int.mul_add,Int.mul_add]
 have e1:x1*4294967296*(y1*4294967296)=x1*y1*18446744073709551616:=by
  rw [Int.mul_assoc x1,Int.mul_comm 4294967296 (y1*4294967296),← Int.mul_assoc x1,← Int.mul_assoc x1,Int.mul_assoc (x1*y1)]
  rfl
 have e2:x1*4294967296*y0=x1*y0*4294967296:=by rw [Int.mul_assoc,Int.mul_comm 4294967296,← Int.mul_assoc]
 have e3:x0*(y1*4294967296)=x0*y1*4294967296:=by rw [← Int.mul_assoc]
 rw [e1,e2,e3]
 omega
theorem Times_low (a b x y x0 x1 y0 y1 p00 p11 p01 p10 Z:Int) (sg2:Bool) (ha:InR a) (hb:InR b) (hsz:Hid ((a.natAbs:Int)=x∧(b.natAbs:Int)=y)) (hsg:Hid ((decide (a < 0)==decide (b < 0)) = !sg2))
  (e1:bits .and .u64 x 4294967295=x0) (e2:x / 4294967296=x1) (e3:bits .and .u64 y 4294967295=y0) (e4:y / 4294967296=y1)
  (hx:0≤x∧x≤9223372036854775808) (hy:0≤y∧y≤9223372036854775808) (hx0:0≤x0∧x0 < 4294967296) (hx1:0≤x1∧x1 < 4294967296) (hy0:0≤y0∧y0 < 4294967296) (hy1:0≤y1∧y1 < 4294967296)
  (f1:x0*y0=p00) (f2:x1*y1=p11) (f3:x0*y1=p01) (f4:x1*y0=p10) (g1:0≤p00∧p00≤18446744065119617025) (g2:0≤p11∧p11≤18446744065119617025) (g3:0≤p01∧p01≤18446744065119617025) (g4:0≤p10∧p10≤18446744065119617025)
  (hZ:Hid (p00+p11*18446744073709551616+(p01+p10)*4294967296=Z∧Z < 340282366920938463463374607431768211456)) (w:World):
  Calls Tryz.prog 88 #[.int .i64 a,.int .i64 b] w fun e w'=>∃ v,e = .returned v∧IsN v sg2 Z∧Below w.heap.size w w':=by
 go_enter Tryz.func88,Tryz.ntmps88
 go_wp2_with fail
 refine (size_ref a x ha hsz.out.1 _).mono ?_
 rintro e w' ⟨rfl,rfl⟩
 go_wp2_with fail
 refine (size_ref b y hb hsz.out.2 _).mono ?_
 rintro e w' ⟨rfl,rfl⟩
 go_wp2
 clear e1 e2 e3 e4 f1 f2 f3 f4
 go_loopw [40] (fun v wr=>∃ (k:Nat) (r0 r1 r2 r3:Int),v = .int .i64 (k:Int)∧k≤2∧Hid (PS 4 r0 r1 r2 r3+rem2 k p01 p10=Z)∧MemA (w.heap.size+1) (w.alloc (.cells #[.bool false,.int .u64 0,.int .u64 0,.int .u64 0,.int .u64 0] 109)) (w.heap.size+1) r0 r1 r2 r3 wr) (fun v _=>2 - (intOf v).toNat)
 case atStart=>
  refine ⟨0,p00,p11,0,0,rfl,by omega,?_,?_⟩
  ·show PS 4 p00 p11 0 0+rem2 0 p01 p10=Z
   rw [PS4,← hZ.out.1]
   simp [rem2]
  ·exact ⟨by go_grown,by omega,by simp,by simp [go_sem],by simp [go_sem],by simp [go_sem],by simp [go_sem],fun o=>by simp [go_sem],by unfold U;omega,by unfold U;omega,by unfold U;omega,by unfold U;omega⟩
 case round=>
  obtain ⟨k,r0,r1,r2,r3,rfl,hk,hPS,hM⟩:=hrel
  have hcell:=(bcell hM.below).1
  have hfroz:=(bcell hM.below).2
  have hc0:=hM.c0
  have hc1:=hM.c1
  have hc2:=hM.c2
  have hc3:=hM.c3
  have hfz:=hM.fz
  match k,hk with
  | 0,_=>
   go_wp2_with fail
   refine (plus_low r0 r1 r2 r3 (IntKind.u64.wrap (p01*4294967296)) (p01 / 4294967296) 0 0 hM.u0 hM.u1 hM.u2 hM.u3 (wr_U _) (by unfold U;omega) (by unfold U;omega) (by unfold U;omega) _).mono ?_
   rintro e w1 ⟨c0,c1,c2,c3,cr,rfl,v0,v1,v2,v3,hinv,hb⟩
   have hM1:=hM.up hb
   have hM2:=hM1.set v0 v1 v2 v3
   have hN:Hid (PS 4 c0 c1 c2 c3+rem2 1 p01 p10=Z):=by
    show _=_
    have h:=hinv.out
    have h':=hPS.out
    have hZb:=hZ.out.2
    have hc:0≤PS 4 c0 c1 c2 c3:=by rw [PS4];unfold U at *;omega
    rw [BP4,PS4 (IntKind.u64.wrap (p01*4294967296)),IntKind.wrap_u64] at h
    simp [rem2] at h' ⊢
    omega
   clear hcell hfroz hc0 hc1 hc2 hc3 hfz
   have hcell:=(bcell hM1.below).1
   have hfroz:=(bcell hM1.below).2
   have hc0:=hM1.c0
   have hc1:=hM1.c1
   have hc2:=hM1.c2
   have hc3:=hM1.c3
   have hfz:=hM1.fz
   go_wp2
   go_roundw
   case rel=>exact ⟨1,c0,c1,c2,c3,rfl,by omega,hN,hM2⟩
   case measure=>simp [intOf]
  | 1,_=>
   go_wp2_with fail
   refine (plus_low r0 r1 r2 r3 (IntKind.u64.wrap (p10*4294967296)) (p10 / 4294967296) 0 0 hM.u0 hM.u1 hM.u2 hM.u3 (wr_U _) (by unfold U;omega) (by unfold U;omega) (by unfold U;omega) _).mono ?_
   rintro e w1 ⟨c0,c1,c2,c3,cr,rfl,v0,v1,v2,v3,hinv,hb⟩
   have hM1:=hM.up hb
   have hM2:=hM1.set v0 v1 v2 v3
   have hN:Hid (PS 4 c0 c1 c2 c3+rem2 2 p01 p10=Z):=by
    show _=_
    have h:=hinv.out
    have h':=hPS.out
    have hZb:=hZ.out.2
    have hc:0≤PS 4 c0 c1 c2 c3:=by rw [PS4];unfold U at *;omega
    rw [BP4,PS4 (IntKind.u64.wrap (p10*4294967296)),IntKind.wrap_u64] at h
    simp [rem2] at h' ⊢
    omega
   clear hcell hfroz hc0 hc1 hc2 hc3 hfz
   have hcell:=(bcell hM1.below).1
   have hfroz:=(bcell hM1.below).2
   have hc0:=hM1.c0
   have hc1:=hM1.c1
   have hc2:=hM1.c2
   have hc3:=hM1.c3
   have hfz:=hM1.fz
   go_wp2
   go_roundw
   case rel=>exact ⟨2,c0,c1,c2,c3,rfl,by omega,hN,hM2⟩
   case measure=>simp [intOf]
  | 2,_=>
   go_wp2
   obtain ⟨f0,f1,f2,f3,f4⟩:=five wr w.heap.size (.bool (!(decide (a < 0)==decide (b < 0)))) (.int .u64 r0) (.int .u64 r1) (.int .u64 r2) (.int .u64 r3) (by rw [hcell _ _ (by simp)];simp [go_sem];rfl) (by rw [hcell _ _ (by simp)];simp [go_sem];rfl) (by rw [hcell _ _ (by simp)];simp [go_sem];rfl) (by rw [hcell _ _ (by simp)];simp [go_sem];rfl) (by rw [hcell _ _ (by simp)];simp [go_sem];rfl)
   have hB:Below w.heap.size w wr:=Below.trans (by go_grown) (hM.below.mono (by omega))
   refine bodyPost_ret (v:=.agg #[.bool (!(decide (a < 0)==decide (b < 0))),.int .u64 r0,.int .u64 r1,.int .u64 r2,.int .u64 r3]) (by simp [results,Tryz.results88,go_sem,f0,f1,f2,f3,f4]) rfl ⟨_,rfl,⟨r0,r1,r2,r3,by rw [hsg.out,Bool.not_not],hM.u0,hM.u1,hM.u2,hM.u3,?_⟩,?_⟩
   ·have h:=hPS.out
    simp [rem2] at h
    exact h
   ·exact Below.setCell (Below.setCell (Below.setCell (Below.setCell (Below.setCell hB (by simp) _) (by simp) _) (by simp) _) (by simp) _) (by simp) _
end Go.Proofs.YtpdkkcnmgiihcaaGreatDoor.Rf
namespace Go.Proofs.YtpdkkcnmgiihcaaGreatDoor.Rf
open Go.RowKit Fx
theorem rqI_nat (x d:Nat):rqI (x:Int) (d:Int)=((rq x d:Nat):Int):=by
 unfold rqI rq
 rw [← Int.natCast_emod,← Int.natCast_ediv]
 generalize x % d=r
 generalize x / d=q
 split <;> split <;> omega
theorem times_any (a b:Int) (ha:InR a) (hb:InR b) (w:World):
  Calls Tryz.prog 88 #[.int .i64 a,.int .i64 b] w fun e w'=>∃ v,e = .returned v∧IsN v (Fx.differ a b) ((a.natAbs*b.natAbs:Nat):Int)∧Below w.heap.size w w':=by
 obtain ⟨x,ex⟩:∃ x:Int,(a.natAbs:Int)=x:=⟨_,rfl⟩
 obtain ⟨y,ey⟩:∃ y:Int,(b.natAbs:Int)=y:=⟨_,rfl⟩
 have hx:0≤x∧x≤9223372036854775808:=by unfold InR at ha;omega
 have hy:0≤y∧y≤9223372036854775808:=by unfold InR at hb;omega
 have hsp:=times_split x y (x % 4294967296) (x / 4294967296) (y % 4294967296) (y / 4294967296) (by omega) (by omega)
 have hxy:x*y≤9223372036854775808*9223372036854775808:=Int.mul_le_mul hx.2 hy.2 hy.1 (by omega)
 rw [Int.natCast_mul,ex,ey]
 exact Times_low a b x y (x % 4294967296) (x / 4294967296) (y % 4294967296) (y / 4294967296) _ _ _ _ (x*y) (Fx.differ a b) ha hb ⟨ex,ey⟩ (by show _=_;unfold Fx.differ;cases decide (a < 0) <;> cases decide (b < 0) <;> rfl)
  (Kn.maskI x (by omega) (by omega)) rfl (Kn.maskI y (by omega) (by omega)) rfl hx hy (by omega) (by omega) (by omega) (by omega) rfl rfl rfl rfl
  (half_mul _ _ (by omega) (by omega)) (half_mul _ _ (by omega) (by omega)) (half_mul _ _ (by omega) (by omega)) (half_mul _ _ (by omega) (by omega)) ⟨hsp.symm,by omega⟩ w
theorem shifted_any (v:Value) (s:Bool) (x:Int) (hv:IsN v s x) (hx:x*4294967296 < 115792089237316195423570985008687907853269984665640564039457584007913129639936) (w:World):
  Calls Tryz.prog 163 #[v,.int .i64 32] w fun e w'=>∃ u,e = .returned u∧IsN u s (x*4294967296)∧Below w.heap.size w w':=by
 have hr:=hv.rng
 obtain ⟨a0,a1,a2,a3,rfl,p0,p1,p2,p3,hX⟩:=hv
 have h:=Shifted_low s a0 a1 a2 a3 p0 p1 p2 p3 32 (by omega) 32 rfl (by omega) (x*4294967296) (by show _=_;rw [hX];rfl) (by
  show x*4294967296 / 2 ^ 256*2 ^ 256=0
  rw [Int.ediv_eq_zero_of_lt (by omega) (show x*4294967296 < 2 ^ 256 from hx),Int.zero_mul]) w
 rw [show hp (x*4294967296) 32=x*4294967296 from by
  unfold hp
  rw [show (2:Int) ^ 32=4294967296 from rfl,Int.mul_ediv_cancel _ (by omega)]] at h
 exact h
theorem divided_any (v:Value) (s:Bool) (x by_:Int) (hv:IsN v s x) (hby:InR by_) (h0:by_≠0) (w:World):
  Calls Tryz.prog 61 #[v,.int .i64 by_] w fun e w'=>∃ u,e = .returned u∧IsN u (s != decide (by_ < 0)) (rqI x (by_.natAbs:Int))∧Below w.heap.size w w':=by
 have hr:=hv.rng
 obtain ⟨a0,a1,a2,a3,rfl,p0,p1,p2,p3,hX⟩:=hv
 exact Divided_low s a0 a1 a2 a3 p0 p1 p2 p3 by_ (by_.natAbs:Int) hby (by unfold InR at hby;omega) rfl x ⟨hX,hr.1,hr.2⟩ _ (by show _=_;cases s <;> cases decide (by_ < 0) <;> rfl) w
theorem halved_any (v:Value) (s:Bool) (x:Int) (hv:IsN v s x) (w:World):
  Calls Tryz.prog 89 #[v,.int .i64 32] w fun e w'=>∃ u,e = .returned u∧IsN u s (rqI x 4294967296)∧Below w.heap.size w w':=by
 have hr:=hv.rng
 obtain ⟨a0,a1,a2,a3,rfl,p0,p1,p2,p3,hX⟩:=hv
 exact Halved_low s a0 a1 a2 a3 p0 p1 p2 p3 32 32 ⟨rfl,by omega⟩ (by omega) x ⟨hX,hr.1,hr.2⟩ w
theorem sv_from (a:Int):sv (decide (a < 0)) (a.natAbs:Int)=a:=by
 unfold sv
 by_cases h:a < 0
 ·rw [if_pos (by simpa using h)];omega
 ·rw [if_neg (by simpa using h)];omega
theorem sv_turn (s:Bool) (x:Int):sv (!s) x = -sv s x:=by
 unfold sv;cases s <;> simp
theorem add_ref (a b:Int) (ha:InR a) (hb:InR b) (y:Int) (ey:hold (a+b)=y) (w:World):
  Calls Tryz.prog 70 #[.int .i64 a,.int .i64 b] w fun e w'=>e = .returned (.int .i64 y)∧Below w.heap.size w w':=by
 have E:Hid (hold (a+b)=y):=ey
 clear ey
 go_enter Tryz.func70,Tryz.ntmps70
 go_wp2_with fail
 refine (from_any a ha _).mono ?_
 rintro e w1 ⟨v,rfl,hv,hb1⟩
 go_wp2_with fail
 refine (from_any b hb _).mono ?_
 rintro e w2 ⟨u,rfl,hu,hb2⟩
 have hsm:(a.natAbs:Int)+(b.natAbs:Int) < 115792089237316195423570985008687907853269984665640564039457584007913129639936:=by unfold InR at ha hb;omega
 go_wp2_with fail
 refine (plus_any v u _ _ _ _ hv hu hsm _).mono ?_
 rintro e w3 ⟨z,r,m,rfl,hz,hs,hb3⟩
 clear hsm
 go_wp2_with fail
 refine (held_ref z r m hz _).mono ?_
 rintro e w4 ⟨rfl,hb4⟩
 go_wp2
 go_ret
 refine ⟨ret_int ?_,?_⟩
 ·rw [sv_from,sv_from];exact E.out
 ·have c1:=hb1.trans (hb2.mono hb1.size)
  have c2:=c1.trans (hb3.mono c1.size)
  exact c2.trans (hb4.mono c2.size)
theorem sub_ref (a b:Int) (ha:InR a) (hb:InR b) (y:Int) (ey:hold (a - b)=y) (w:World):
  Calls Tryz.prog 71 #[.int .i64 a,.int .i64 b] w fun e w'=>e = .returned (.int .i64 y)∧Below w.heap.size w w':=by
 have E:Hid (hold (a - b)=y):=ey
 clear ey
 go_enter Tryz.func71,Tryz.ntmps71
 go_wp2_with fail
 refine (from_any a ha _).mono ?_
 rintro e w1 ⟨v,rfl,hv,hb1⟩
 go_wp2_with fail
 refine (from_any b hb _).mono ?_
 rintro e w2 ⟨u,rfl,hu,hb2⟩
 go_wp2_with fail
 refine (turned_any u _ _ hu _).mono ?_
 rintro e w5 ⟨t,rfl,ht,hb5⟩
 have hsm:(a.natAbs:Int)+(b.natAbs:Int) < 115792089237316195423570985008687907853269984665640564039457584007913129639936:=by unfold InR at ha hb;omega
 go_wp2_with fail
 refine (plus_any v t _ _ _ _ hv ht hsm _).mono ?_
 rintro e w3 ⟨z,r,m,rfl,hz,hs,hb3⟩
 clear hsm
 go_wp2_with fail
 refine (held_ref z r m hz _).mono ?_
 rintro e w4 ⟨rfl,hb4⟩
 go_wp2
 go_ret
 refine ⟨ret_int ?_,?_⟩
 ·rw [sv_turn,sv_from,sv_from,← Int.sub_eq_add_neg];exact E.out
 ·have c1:=hb1.trans (hb2.mono hb1.size)
  have c2:=c1.trans (hb5.mono c1.size)
  have c3:=c2.trans (hb3.mono c2.size)
  exact c3.trans (hb4.mono c3.size)
theorem neg_ref (a:Int) (ha:InR a) (y:Int) (ey:hold (-a)=y) (w:World):
  Calls Tryz.prog 131 #[.int .i64 a] w fun e w'=>e = .returned (.int .i64 y)∧Below w.heap.size w w':=by
 have E:Hid (hold (0 - a)=y):=by show _=_;rw [Int.zero_sub];exact ey
 clear ey
 go_enter Tryz.func131,Tryz.ntmps131
 go_wp2_with fail
 refine (sub_ref 0 a (by unfold InR;omega) ha y E.out _).mono ?_
 rintro e w1 ⟨rfl,hb1⟩
 go_wp2
 go_ret
 exact ⟨rfl,hb1⟩
theorem mul_ref (a b:Int) (ha:InR a) (hb:InR b) (y:Int) (ey:mulI a b=y) (w:World):
  Calls Tryz.prog 72 #[.int .i64 a,.int .i64 b] w fun e w'=>e = .returned (.int .i64 y)∧Below w.heap.size w w':=by
 have E:Hid (mulI a b=y):=ey
 clear ey
 go_enter Tryz.func72,Tryz.ntmps72
 go_wp2_with fail
 refine (times_any a b ha hb _).mono ?_
 rintro e w1 ⟨v,rfl,hv,hb1⟩
 go_wp2_with fail
 refine (halved_any v _ _ hv _).mono ?_
 rintro e w2 ⟨u,rfl,hu,hb2⟩
 go_wp2_with fail
 refine (held_ref u _ _ hu _).mono ?_
 rintro e w3 ⟨rfl,hb3⟩
 go_wp2
 go_ret
 refine ⟨ret_int ?_,?_⟩
 ·rw [← E.out,show (4294967296:Int)=((4294967296:Nat):Int) from rfl,← Int.natCast_mul,rqI_nat]
  rfl
 ·have c1:=hb1.trans (hb2.mono hb1.size)
  exact c1.trans (hb3.mono c1.size)
theorem nought_ref (n z:Bool) (w:World):
  Calls Tryz.prog 162 #[.bool n,.bool z] w fun e w'=>e = .returned (.int .i64 (if z then 0 else lim n))∧w'=w:=by
 cases n <;> cases z
 all_goals
  go_enter Tryz.func162,Tryz.ntmps162
  go_wp2
  go_ret
  exact ⟨rfl,rfl⟩
theorem div_ref (a b:Int) (ha:InR a) (hb:InR b) (y:Int) (ey:divI a b=y) (w:World):
  Calls Tryz.prog 129 #[.int .i64 a,.int .i64 b] w fun e w'=>e = .returned (.int .i64 y)∧Below w.heap.size w w':=by
 have E:Hid (divI a b=y):=ey
 clear ey
 by_cases h0:b=0
 ·have h0':(b==0)=true:=by simpa using h0
  have H0:Hid (b=0):=h0
  clear h0
  obtain ⟨yy,eyy⟩:∃ t,t=if (a==0) then 0 else lim (decide (a < 0)):=⟨_,rfl⟩
  have EY:Hid (yy=y):=by
   show _=_
   rw [← E.out,H0.out,eyy]
   unfold divI overI lim
   by_cases h1:a=0
   ·simp [h1]
   ·by_cases h2:a < 0 <;> simp [h1,h2]
  go_enter Tryz.func129,Tryz.ntmps129
  go_wp2_with fail
  have c:=nought_ref (decide (a < 0)) (a==0) w
  rw [← eyy] at c
  clear eyy
  refine c.mono ?_
  rintro e w1 ⟨rfl,rfl⟩
  go_wp2
  go_ret
  exact ⟨ret_int EY.out,Below.refl _ _⟩
 ·have h0':(b==0)=false:=by simpa using h0
  have H0:Hid (b≠0):=h0
  clear h0
  go_enter Tryz.func129,Tryz.ntmps129
  go_wp2_with fail
  refine (from_any a ha _).mono ?_
  rintro e w1 ⟨v,rfl,hv,hb1⟩
  have hsm:(a.natAbs:Int)*4294967296 < 115792089237316195423570985008687907853269984665640564039457584007913129639936:=by unfold InR at ha;omega
  go_wp2_with fail
  refine (shifted_any v _ _ hv hsm _).mono ?_
  rintro e w2 ⟨u,rfl,hu,hb2⟩
  clear hsm
  go_wp2_with fail
  refine (divided_any u _ _ b hu hb H0.out _).mono ?_
  rintro e w3 ⟨t,rfl,ht,hb3⟩
  go_wp2_with fail
  refine (held_ref t _ _ ht _).mono ?_
  rintro e w4 ⟨rfl,hb4⟩
  go_wp2
  go_ret
  refine ⟨ret_int ?_,?_⟩
  ·rw [← E.out,show (a.natAbs:Int)*4294967296=((a.natAbs*4294967296:Nat):Int) from rfl,rqI_nat]
   unfold divI
   rw [if_neg H0.out]
   rfl
  ·have c1:=hb1.trans (hb2.mono hb1.size)
   have c2:=c1.trans (hb3.mono c1.size)
   exact c2.trans (hb4.mono c2.size)
end Go.Proofs.YtpdkkcnmgiihcaaGreatDoor.Rf
