/- Bits of numbers of four words: plain arithmetic. A signed number that lies in memory, bit by bit; the reference's shift. The reference's division, rounded: as whole numbers. -/
import Derived.Test.YtaiigfhicaelkabGreatDoorW24
set_option linter.unusedVariables false
set_option linter.unusedSimpArgs false
set_option maxHeartbeats 16000000
set_option maxRecDepth 16000
namespace Go.Proofs.YtaiigfhicaelkabGreatDoor.Rf
open Go.RowKit Fx
theorem two_pos (n:Nat):(0:Int) < 2 ^ n:=Int.pow_pos (by decide)
theorem lim_bit (a H:Int) (r:Nat) (hr:r < 64):(a+18446744073709551616*H) / 2 ^ r % 2=a / 2 ^ r % 2:=by
 have e:(18446744073709551616:Int)=2 ^ r*(2*2 ^ (63 - r)):=by
  rw [show (18446744073709551616:Int)=2 ^ 64 from rfl,show 64=r+(1+(63 - r)) by omega,Int.pow_add,Int.pow_add]
  rfl
 rw [e,Int.mul_assoc,Int.add_mul_ediv_left _ _ (Int.ne_of_gt (two_pos r)),Int.mul_assoc]
 omega
theorem div_two (x:Int) (e r:Nat):x / 2 ^ (e+r)=x / 2 ^ e / 2 ^ r:=by
 have h:=two_pos e
 rw [Int.pow_add,Int.ediv_ediv,if_neg (fun c=>by omega),Int.sub_zero]
/-- Which word a bit lies in. -/
theorem limb_bit (a0 a1 a2 a3:Int) (h0:U a0) (h1:U a1) (h2:U a2) (h3:U a3) (r:Nat) (hr:r < 64):
  PS 4 a0 a1 a2 a3 / 2 ^ (64*0+r) % 2=a0 / 2 ^ r % 2∧PS 4 a0 a1 a2 a3 / 2 ^ (64*1+r) % 2=a1 / 2 ^ r % 2∧
  PS 4 a0 a1 a2 a3 / 2 ^ (64*2+r) % 2=a2 / 2 ^ r % 2∧PS 4 a0 a1 a2 a3 / 2 ^ (64*3+r) % 2=a3 / 2 ^ r % 2:=by
 unfold U at *
 rw [PS4]
 refine ⟨?_,?_,?_,?_⟩
 ·rw [div_two,← lim_bit a0 (a1+a2*18446744073709551616+a3*340282366920938463463374607431768211456) r hr]
  congr 2
  show _ / 1=_
  omega
 ·rw [div_two,← lim_bit a1 (a2+a3*18446744073709551616) r hr]
  congr 2
  show _ / 18446744073709551616=_
  omega
 ·rw [div_two,← lim_bit a2 a3 r hr]
  congr 2
  show _ / 340282366920938463463374607431768211456=_
  omega
 ·rw [div_two,← lim_bit a3 0 r hr]
  congr 2
  show _ / 6277101735386680763835789423207666416102355444464034512896=_
  omega
theorem or_bit (a t:Nat) (h:a / 2 ^ t % 2=0):a ||| 2 ^ t=a+2 ^ t:=by
 have hp:=Nat.two_pow_pos t
 have hl:=Nat.mod_lt a hp
 have hd:=Nat.div_add_mod a (2 ^ t)
 have hq:a / 2 ^ t=2*(a / 2 ^ t / 2):=by omega
 have hP:2 ^ (t+1)=2 ^ t*2:=Nat.pow_succ 2 t
 have ea:a=2 ^ (t+1)*(a / 2 ^ t / 2)+a % 2 ^ t:=by
  rw [hP,Nat.mul_assoc,← hq,hd]
 have e1:2 ^ (t+1)*(a / 2 ^ t / 2)+a % 2 ^ t=2 ^ (t+1)*(a / 2 ^ t / 2) ||| a % 2 ^ t:=Nat.two_pow_add_eq_or_of_lt (by omega) _
 have e2:2 ^ t*1+a % 2 ^ t=2 ^ t*1 ||| a % 2 ^ t:=Nat.two_pow_add_eq_or_of_lt hl 1
 have e3:2 ^ (t+1)*(a / 2 ^ t / 2)+(2 ^ t*1+a % 2 ^ t)=2 ^ (t+1)*(a / 2 ^ t / 2) ||| (2 ^ t*1+a % 2 ^ t):=Nat.two_pow_add_eq_or_of_lt (by omega) _
 rw [e2,Nat.mul_one] at e3
 have:a ||| 2 ^ t=2 ^ (t+1)*(a / 2 ^ t / 2) ||| (2 ^ t ||| a % 2 ^ t):=by
  conv=>lhs;rw [ea,e1,Nat.or_assoc,Nat.or_comm (a % 2 ^ t)]
 rw [Nat.mul_one] at e2
 rw [this,← e3,← e2]
 omega
theorem or_set (a:Int) (t:Nat) (ha:U a) (ht:t < 64) (h:a / 2 ^ t % 2=0):bits .or .u64 a (2 ^ t)=a+2 ^ t∧U (a+2 ^ t):=by
 obtain ⟨n,rfl⟩:=Int.eq_ofNat_of_zero_le ha.1
 have hn:n < 18446744073709551616:=by have:=ha.2;omega
 have ht2:2 ^ t < 18446744073709551616:=by
  rw [show 18446744073709551616=2 ^ 64 from rfl];exact Nat.pow_lt_pow_right (by decide) ht
 have hb:n / 2 ^ t % 2=0:=by
  have c:((n / 2 ^ t % 2:Nat):Int)=(n:Int) / 2 ^ t % 2:=by
   rw [Int.natCast_emod,Int.natCast_ediv,Int.natCast_pow];rfl
  omega
 have hc:((2:Int) ^ t)=((2 ^ t:Nat):Int):=by rw [Int.natCast_pow];rfl
 have hl:n ||| 2 ^ t < 2 ^ 64:=Nat.or_lt_two_pow (by omega) (by omega)
 rw [hc,bits_or_u64_nat n (2 ^ t) hn ht2,or_bit n t hb]
 rw [or_bit n t hb] at hl
 refine ⟨by rw [Int.natCast_add],?_⟩
 have hp:=two_pos t
 unfold U
 omega
theorem wrap_pow (t:Nat) (ht:t < 64):IntKind.u64.wrap (2 ^ t)=2 ^ t:=by
 have hc:((2:Int) ^ t)=((2 ^ t:Nat):Int):=by rw [Int.natCast_pow];rfl
 have ht2:2 ^ t < 18446744073709551616:=by
  rw [show 18446744073709551616=2 ^ 64 from rfl];exact Nat.pow_lt_pow_right (by decide) ht
 have hp:=two_pos t
 rw [IntKind.wrap_u64]
 omega
/-- A number's part from bit k on. -/
def hp (x:Int) (k:Nat):Int:=x / 2 ^ k*2 ^ k
theorem bit_n (a0 a1 a2 a3:Int) (h0:U a0) (h1:U a1) (h2:U a2) (h3:U a3) (i:Nat) (hi:i < 256) (ii bt:Int) (ei:ii=(i:Int)) (eb:bt=PS 4 a0 a1 a2 a3 / 2 ^ i % 2) (w:World):
  Calls Tryz.prog 60 #[.agg #[.int .u64 a0,.int .u64 a1,.int .u64 a2,.int .u64 a3],.int .i64 ii] w fun e w'=>e = .returned (.int .u64 bt)∧Below w.heap.size w w':=by
 have hr:i % 64 < 64:=by omega
 obtain ⟨l0,l1,l2,l3⟩:=limb_bit a0 a1 a2 a3 h0 h1 h2 h3 (i % 64) hr
 have hq:i / 64=0∨i / 64=1∨i / 64=2∨i / 64=3:=by omega
 rcases hq with hq|hq|hq|hq
 ·rw [show 64*0+i % 64=i by omega] at l0
  rw [eb,l0]
  exact bit_at 0 (by omega) a0 a1 a2 a3 ii a0 (i % 64) h0 h1 h2 h3 hr (by omega) rfl w
 ·rw [show 64*1+i % 64=i by omega] at l1
  rw [eb,l1]
  exact bit_at 1 (by omega) a0 a1 a2 a3 ii a1 (i % 64) h0 h1 h2 h3 hr (by omega) rfl w
 ·rw [show 64*2+i % 64=i by omega] at l2
  rw [eb,l2]
  exact bit_at 2 (by omega) a0 a1 a2 a3 ii a2 (i % 64) h0 h1 h2 h3 hr (by omega) rfl w
 ·rw [show 64*3+i % 64=i by omega] at l3
  rw [eb,l3]
  exact bit_at 3 (by omega) a0 a1 a2 a3 ii a3 (i % 64) h0 h1 h2 h3 hr (by omega) rfl w
attribute [local go_sem] setCell_drewN alloc_drewN
/-- Block b holds a sign and four words; below B all is as it was. -/
structure Mem (B:Nat) (W2:World) (b:Nat) (s:Bool) (r0 r1 r2 r3:Int) (wr:World):Prop where
 below:Below B W2 wr
 le:B≤b
 lt:b < wr.heap.size
 c0:wr.cell? ⟨b,0,none⟩=some (.bool s)
 c1:wr.cell? ⟨b,1,none⟩=some (.int .u64 r0)
 c2:wr.cell? ⟨b,2,none⟩=some (.int .u64 r1)
 c3:wr.cell? ⟨b,3,none⟩=some (.int .u64 r2)
 c4:wr.cell? ⟨b,4,none⟩=some (.int .u64 r3)
 fz:∀ o,wr.frozen? ⟨b,o,none⟩=false
 u0:U r0
 u1:U r1
 u2:U r2
 u3:U r3
theorem Mem.up {B:Nat} {W2 wr w1:World} {b:Nat} {s:Bool} {r0 r1 r2 r3:Int} (h:Mem B W2 b s r0 r1 r2 r3 wr) (hb:Below wr.heap.size wr w1):Mem B W2 b s r0 r1 r2 r3 w1:=by
 obtain ⟨hc,hf⟩:=bcell hb
 have hl:wr.heap.size≤w1.heap.size:=hb.size
 have h1:=h.le
 have h2:=h.lt
 exact ⟨h.below.trans (hb.mono (by omega)),h.le,by omega,by rw [hc _ _ h2];exact h.c0,by rw [hc _ _ h2];exact h.c1,by rw [hc _ _ h2];exact h.c2,by rw [hc _ _ h2];exact h.c3,by rw [hc _ _ h2];exact h.c4,fun o=>by rw [hf _ _ h2];exact h.fz o,h.u0,h.u1,h.u2,h.u3⟩
theorem Mem.set0 {B:Nat} {W2 wr:World} {b:Nat} {s:Bool} {r0 r1 r2 r3 v:Int} (h:Mem B W2 b s r0 r1 r2 r3 wr) (hv:U v):Mem B W2 b s v r1 r2 r3 (wr.setCell ⟨b,1,none⟩ (.int .u64 v)):=
 ⟨h.below.setCell h.le _,h.le,by rw [World.size_setCell];exact h.lt,by rw [set_off (by omega)];exact h.c0,set_same h.c1,by rw [set_off (by omega)];exact h.c2,by rw [set_off (by omega)];exact h.c3,by rw [set_off (by omega)];exact h.c4,fun o=>by rw [World.frozen?_setCell];exact h.fz o,hv,h.u1,h.u2,h.u3⟩
theorem Mem.set1 {B:Nat} {W2 wr:World} {b:Nat} {s:Bool} {r0 r1 r2 r3 v:Int} (h:Mem B W2 b s r0 r1 r2 r3 wr) (hv:U v):Mem B W2 b s r0 v r2 r3 (wr.setCell ⟨b,2,none⟩ (.int .u64 v)):=
 ⟨h.below.setCell h.le _,h.le,by rw [World.size_setCell];exact h.lt,by rw [set_off (by omega)];exact h.c0,by rw [set_off (by omega)];exact h.c1,set_same h.c2,by rw [set_off (by omega)];exact h.c3,by rw [set_off (by omega)];exact h.c4,fun o=>by rw [World.frozen?_setCell];exact h.fz o,h.u0,hv,h.u2,h.u3⟩
theorem Mem.set2 {B:Nat} {W2 wr:World} {b:Nat} {s:Bool} {r0 r1 r2 r3 v:Int} (h:Mem B W2 b s r0 r1 r2 r3 wr) (hv:U v):Mem B W2 b s r0 r1 v r3 (wr.setCell ⟨b,3,none⟩ (.int .u64 v)):=
 ⟨h.below.setCell h.le _,h.le,by rw [World.size_setCell];exact h.lt,by rw [set_off (by omega)];exact h.c0,by rw [set_off (by omega)];exact h.c1,by rw [set_off (by omega)];exact h.c2,set_same h.c3,by rw [set_off (by omega)];exact h.c4,fun o=>by rw [World.frozen?_setCell];exact h.fz o,h.u0,h.u1,hv,h.u3⟩
theorem Mem.set3 {B:Nat} {W2 wr:World} {b:Nat} {s:Bool} {r0 r1 r2 r3 v:Int} (h:Mem B W2 b s r0 r1 r2 r3 wr) (hv:U v):Mem B W2 b s r0 r1 r2 v (wr.setCell ⟨b,4,none⟩ (.int .u64 v)):=
 ⟨h.below.setCell h.le _,h.le,by rw [World.size_setCell];exact h.lt,by rw [set_off (by omega)];exact h.c0,by rw [set_off (by omega)];exact h.c1,by rw [set_off (by omega)];exact h.c2,by rw [set_off (by omega)];exact h.c3,set_same h.c4,fun o=>by rw [World.frozen?_setCell];exact h.fz o,h.u0,h.u1,h.u2,hv⟩
theorem set_num0 {r0 r1 r2 r3 z y:Int} (h:Hid (PS 4 r0 r1 r2 r3=z)) (tt m:Nat) (hm:m=64*0+tt) (hy:y=z+2 ^ m):Hid (PS 4 (r0+2 ^ tt) r1 r2 r3=y):=by
 have h':=h.out
 show PS 4 (r0+2 ^ tt) r1 r2 r3=y
 rw [hy,← h',PS4,PS4,hm,Int.pow_add]
 generalize (2:Int) ^ tt=P
 show _=_+1*P
 omega
theorem set_num1 {r0 r1 r2 r3 z y:Int} (h:Hid (PS 4 r0 r1 r2 r3=z)) (tt m:Nat) (hm:m=64*1+tt) (hy:y=z+2 ^ m):Hid (PS 4 r0 (r1+2 ^ tt) r2 r3=y):=by
 have h':=h.out
 show PS 4 r0 (r1+2 ^ tt) r2 r3=y
 rw [hy,← h',PS4,PS4,hm,Int.pow_add]
 generalize (2:Int) ^ tt=P
 show _=_+18446744073709551616*P
 omega
theorem set_num2 {r0 r1 r2 r3 z y:Int} (h:Hid (PS 4 r0 r1 r2 r3=z)) (tt m:Nat) (hm:m=64*2+tt) (hy:y=z+2 ^ m):Hid (PS 4 r0 r1 (r2+2 ^ tt) r3=y):=by
 have h':=h.out
 show PS 4 r0 r1 (r2+2 ^ tt) r3=y
 rw [hy,← h',PS4,PS4,hm,Int.pow_add]
 generalize (2:Int) ^ tt=P
 show _=_+340282366920938463463374607431768211456*P
 omega
theorem set_num3 {r0 r1 r2 r3 z y:Int} (h:Hid (PS 4 r0 r1 r2 r3=z)) (tt m:Nat) (hm:m=64*3+tt) (hy:y=z+2 ^ m):Hid (PS 4 r0 r1 r2 (r3+2 ^ tt)=y):=by
 have h':=h.out
 show PS 4 r0 r1 r2 (r3+2 ^ tt)=y
 rw [hy,← h',PS4,PS4,hm,Int.pow_add]
 generalize (2:Int) ^ tt=P
 show _=_+6277101735386680763835789423207666416102355444464034512896*P
 omega
end Go.Proofs.YtaiigfhicaelkabGreatDoor.Rf
namespace Go.Proofs.YtaiigfhicaelkabGreatDoor.Rf
open Go.RowKit Fx
attribute [local go_sem] setCell_drewN alloc_drewN
theorem half_step (x:Int) (m:Nat):x / 2 ^ m=2*(x / 2 ^ (m+1))+x / 2 ^ m % 2:=by
 rw [div_two x m 1,show (2:Int) ^ 1=2 from rfl]
 omega
/-- A quotient of whole numbers, rounded. -/
def rqI (x d:Int):Int:=if d < 2*(x % d)∨(2*(x % d)=d∧x / d % 2=1) then x / d+1 else x / d
end Go.Proofs.YtaiigfhicaelkabGreatDoor.Rf
