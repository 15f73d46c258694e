/- What the reference's own small functions -/
import Derived.Test.YtkfpainpomobfaaGreatDoorR01
import Derived.Deep.RegionWith
set_option linter.unusedVariables false
set_option linter.unusedSimpArgs false
set_option maxHeartbeats 16000000
set_option maxRecDepth 16000
namespace Go.Proofs.YtkfpainpomobfaaGreatDoor.Rf
open Go.RowKit Fx List World Nat
theorem a_Y (w:World) (n:Nat) (a:Addr) (v:Value):(w.drewN n).setCell a v=(w.setCell a v).drewN n:=rfl
theorem b_f (w:World) (n:Nat) (o:Obj):(w.drewN n).alloc o=(w.alloc o).drewN n:=rfl
attribute [local go_sem] a_Y b_f
def U (a:Int):Prop:=0<=a/\a < 18446744073709551616
def pk (a:Int) (r:Nat):Int:=a / 2 ^ r % 2
theorem ret_int {k:IntKind} {a b:Int} (h:a=b):Ending.returned (.int k a) = .returned (.int k b):=by rw [h]
theorem h_D (a:Int) (r:Nat) (h:0<=a/\a < 18446744073709551616):0<=a / 2 ^ r/\a / 2 ^ r<=18446744073709551615:=by
 have hp:(0:Int) < 2 ^ r:=Int.pow_pos (by decide);have:=Int.ediv_nonneg h.1 (Int.le_of_lt hp);have:=Int.ediv_le_self (2 ^ r:Int) h.1;omega
theorem k_G (j:Nat) (hj:j < 4) (H J M I i aj:Int) (r:Nat) (h0:U H) (R:U J) (Z:U M) (V:U I) (hr:r < 64) (O:i=64*(j:Int)+(r:Int)) (E:[H,J,M,I][j]?=some aj) (w:World):
  Calls Tryz.prog 135 #[.agg #[.int .u64 H,.int .u64 J,.int .u64 M,.int .u64 I],.int .i64 i] w fun e w'=>e = .returned (.int .u64 (pk aj r))/\Below w.heap.size w w':=by
 have aa:i % 64=(r:Int):=by omega
 have ab:0<=i/\i < 256:=by omega
 unfold U at h0 R Z V;have HI:Hid (i=64*(j:Int)+(r:Int)):=O;have L:i / 64=(j:Int):=by omega
 clear O
 match j,hj with
 | 0,_=>
  simp at E L;subst E;go_enter Tryz.func135,Tryz.ntmps135;go_wp2;go_ret;refine ⟨ret_int ?_,(Below.refl _ _).alloc (Nat.le_refl _) _⟩;have A:=h_D H r h0;rw [and_one_u64 _ A.1 A.2];rfl
 | 1,_=>
  simp at E L;subst E;go_enter Tryz.func135,Tryz.ntmps135;go_wp2;go_ret;refine ⟨ret_int ?_,(Below.refl _ _).alloc (Nat.le_refl _) _⟩;have A:=h_D J r R;rw [and_one_u64 _ A.1 A.2];rfl
 | 2,_=>
  simp at E L;subst E;go_enter Tryz.func135,Tryz.ntmps135;go_wp2;go_ret;refine ⟨ret_int ?_,(Below.refl _ _).alloc (Nat.le_refl _) _⟩;have A:=h_D M r Z;rw [and_one_u64 _ A.1 A.2];rfl
 | 3,_=>
  simp at E L;subst E;go_enter Tryz.func135,Tryz.ntmps135;go_wp2;go_ret;refine ⟨ret_int ?_,(Below.refl _ _).alloc (Nat.le_refl _) _⟩;have A:=h_D I r V;rw [and_one_u64 _ A.1 A.2];rfl
def PS (k:Nat) (a0 a1 a2 a3:Int):Int:=
 if k=0 then 0 else if k=1 then a0 else if k=2 then a0+a1*18446744073709551616 else if k=3 then a0+a1*18446744073709551616+a2*340282366920938463463374607431768211456
 else a0+a1*18446744073709551616+a2*340282366920938463463374607431768211456+a3*6277101735386680763835789423207666416102355444464034512896
def BP (k:Nat):Int:=
 if k=0 then 1 else if k=1 then 18446744073709551616 else if k=2 then 340282366920938463463374607431768211456 else if k=3 then 6277101735386680763835789423207666416102355444464034512896
 else 115792089237316195423570985008687907853269984665640564039457584007913129639936
def A4 (a0 a1 a2 a3:Int):Array Value:=#[.int .u64 a0,.int .u64 a1,.int .u64 a2,.int .u64 a3]
theorem h_N (n:Int):U (IntKind.u64.wrap n):=by unfold U;rw [IntKind.wrap_u64];omega
theorem i_C (a b A:Int) (H:0<=a/\a < 18446744073709551616) (hb:0<=b/\b < 18446744073709551616) (I:0<=A) (E:A<=1) (h:IntKind.u64.wrap (a+b) < a∨IntKind.u64.wrap (IntKind.u64.wrap (a+b)+A) < IntKind.u64.wrap (a+b)):
  IntKind.u64.wrap (IntKind.u64.wrap (a+b)+A)+1*18446744073709551616=a+b+A:=by
 simp only [IntKind.wrap_u64] at *;omega
theorem t_r (a b A:Int) (H:0<=a/\a < 18446744073709551616) (hb:0<=b/\b < 18446744073709551616) (I:0<=A) (E:A<=1) (h:a<=IntKind.u64.wrap (a+b)/\IntKind.u64.wrap (a+b)<=IntKind.u64.wrap (IntKind.u64.wrap (a+b)+A)):
  IntKind.u64.wrap (IntKind.u64.wrap (a+b)+A)+0*18446744073709551616=a+b+A:=by
 simp only [IntKind.wrap_u64] at *;omega
theorem f_i {A M R J E V Z H c0 I O L cr t d:Int} (h:Hid (PS 0 c0 I O L+cr*BP 0=PS 0 A M R J+PS 0 E V Z H)) (e:t+d*18446744073709551616=A+E+cr):
  Hid (PS 1 t I O L+d*BP 1=PS 1 A M R J+PS 1 E V Z H):=by
 have h':=h.out;show PS 1 t I O L+d*BP 1=PS 1 A M R J+PS 1 E V Z H;simp [PS,BP] at h' ⊢;omega
theorem f_j {H A V J R E Z I L c1 O M cr t d:Int} (h:Hid (PS 1 L c1 O M+cr*BP 1=PS 1 H A V J+PS 1 R E Z I)) (e:t+d*18446744073709551616=A+E+cr):
  Hid (PS 2 L t O M+d*BP 2=PS 2 H A V J+PS 2 R E Z I):=by
 have h':=h.out;show PS 2 L t O M+d*BP 2=PS 2 H A V J+PS 2 R E Z I;simp [PS,BP] at h' ⊢;omega
theorem f_k {H R A L V Z E I M J c2 O cr t d:Int} (h:Hid (PS 2 M J c2 O+cr*BP 2=PS 2 H R A L+PS 2 V Z E I)) (e:t+d*18446744073709551616=A+E+cr):
  Hid (PS 3 M J t O+d*BP 3=PS 3 H R A L+PS 3 V Z E I):=by
 have h':=h.out;show PS 3 M J t O+d*BP 3=PS 3 H R A L+PS 3 V Z E I;simp [PS,BP] at h' ⊢;omega
theorem f_l {H L R E O V Z A J I M c3 cr t d:Int} (h:Hid (PS 3 J I M c3+cr*BP 3=PS 3 H L R E+PS 3 O V Z A)) (e:t+d*18446744073709551616=E+A+cr):
  Hid (PS 4 J I M t+d*BP 4=PS 4 H L R E+PS 4 O V Z A):=by
 have h':=h.out;show PS 4 J I M t+d*BP 4=PS 4 H L R E+PS 4 O V Z A;simp [PS,BP] at h' ⊢;omega
theorem d_3 (R a1 a2 Z b0 b1 b2 V:Int) (p0:U R) (p1:U a1) (p2:U a2) (p3:U Z) (q0:U b0) (q1:U b1) (q2:U b2) (q3:U V) (w:World):
  Calls Tryz.prog 131 #[.agg #[.int .u64 R,.int .u64 a1,.int .u64 a2,.int .u64 Z],.agg #[.int .u64 b0,.int .u64 b1,.int .u64 b2,.int .u64 V]] w fun e w'=>
   ∃ I M L J O:Int,e = .returned (.agg #[.int .u64 I,.int .u64 M,.int .u64 L,.int .u64 J])/\U I/\U M/\U L/\U J/\Hid (0<=O/\O<=1/\PS 4 I M L J+O*BP 4=PS 4 R a1 a2 Z+PS 4 b0 b1 b2 V)/\Below w.heap.size w w':=by
 unfold U at p0 p1 p2 p3 q0 q1 q2 q3;go_enter Tryz.func131,Tryz.ntmps131;go_wp2
 go_loopw [6,7] (fun u v wr=>∃ (k n:Nat) (O I M L J:Int),k<=4/\v = .int .i64 (k:Int)/\u = .int .u64 O/\0<=O/\O<=1/\U I/\U M/\U L/\U J/\Hid (PS k I M L J+O*BP k=PS k R a1 a2 Z+PS k b0 b1 b2 V)/\
   wr=((((w.alloc (.cells #[.int .u64 R,.int .u64 a1,.int .u64 a2,.int .u64 Z] 163)).alloc (.cells #[.int .u64 b0,.int .u64 b1,.int .u64 b2,.int .u64 V] 163)).alloc (.cells #[.int .u64 0,.int .u64 0,.int .u64 0,.int .u64 0] 163)).alloc (.cells #[.int .u64 I,.int .u64 M,.int .u64 L,.int .u64 J] 163)).drewN n) (fun _ v _=>4 - (intOf v).toNat)
 case atStart=>exact ⟨0,0,0,0,0,0,0,by omega,rfl,rfl,by omega,by omega,by unfold U;omega,by unfold U;omega,by unfold U;omega,by unfold U;omega,by show PS 0 0 0 0 0+0*BP 0=PS 0 R a1 a2 Z+PS 0 b0 b1 b2 V;simp [PS,BP],rfl⟩
 case round=>
  obtain ⟨k,n,O,I,M,L,J,hk,rfl,rfl,H,E,u0,u1,u2,u3,A,rfl⟩:=hrel
  match k,hk with
  | 0,_=>
   go_wp2_with fail
   go_quiet (fail)
   go_wp2
   all_goals
    go_roundw
    case rel=>
     first
     |exact ⟨1,_,1,_,M,L,J,by omega,rfl,rfl,by omega,by omega,(h_N _),u1,u2,u3,f_i A (i_C _ _ _ p0 q0 H E ‹_›),rfl⟩
     |exact ⟨1,_,1,_,M,L,J,by omega,rfl,rfl,by omega,by omega,(h_N _),u1,u2,u3,f_i A (i_C _ _ _ p0 q0 H E (Or.inl (by omega))),rfl⟩
     |exact ⟨1,_,0,_,M,L,J,by omega,rfl,rfl,by omega,by omega,(h_N _),u1,u2,u3,f_i A (t_r _ _ _ p0 q0 H E ‹_›),rfl⟩
    case measure=>simp [intOf]
  | 1,_=>
   go_wp2_with fail
   go_quiet (fail)
   go_wp2
   all_goals
    go_roundw
    case rel=>
     first
     |exact ⟨2,_,1,I,_,L,J,by omega,rfl,rfl,by omega,by omega,u0,(h_N _),u2,u3,f_j A (i_C _ _ _ p1 q1 H E ‹_›),rfl⟩
     |exact ⟨2,_,1,I,_,L,J,by omega,rfl,rfl,by omega,by omega,u0,(h_N _),u2,u3,f_j A (i_C _ _ _ p1 q1 H E (Or.inl (by omega))),rfl⟩
     |exact ⟨2,_,0,I,_,L,J,by omega,rfl,rfl,by omega,by omega,u0,(h_N _),u2,u3,f_j A (t_r _ _ _ p1 q1 H E ‹_›),rfl⟩
    case measure=>simp [intOf]
  | 2,_=>
   go_wp2_with fail
   go_quiet (fail)
   go_wp2
   all_goals
    go_roundw
    case rel=>
     first
     |exact ⟨3,_,1,I,M,_,J,by omega,rfl,rfl,by omega,by omega,u0,u1,(h_N _),u3,f_k A (i_C _ _ _ p2 q2 H E ‹_›),rfl⟩
     |exact ⟨3,_,1,I,M,_,J,by omega,rfl,rfl,by omega,by omega,u0,u1,(h_N _),u3,f_k A (i_C _ _ _ p2 q2 H E (Or.inl (by omega))),rfl⟩
     |exact ⟨3,_,0,I,M,_,J,by omega,rfl,rfl,by omega,by omega,u0,u1,(h_N _),u3,f_k A (t_r _ _ _ p2 q2 H E ‹_›),rfl⟩
    case measure=>simp [intOf]
  | 3,_=>
   go_wp2_with fail
   go_quiet (fail)
   go_wp2
   all_goals
    go_roundw
    case rel=>
     first
     |exact ⟨4,_,1,I,M,L,_,by omega,rfl,rfl,by omega,by omega,u0,u1,u2,(h_N _),f_l A (i_C _ _ _ p3 q3 H E ‹_›),rfl⟩
     |exact ⟨4,_,1,I,M,L,_,by omega,rfl,rfl,by omega,by omega,u0,u1,u2,(h_N _),f_l A (i_C _ _ _ p3 q3 H E (Or.inl (by omega))),rfl⟩
     |exact ⟨4,_,0,I,M,L,_,by omega,rfl,rfl,by omega,by omega,u0,u1,u2,(h_N _),f_l A (t_r _ _ _ p3 q3 H E ‹_›),rfl⟩
    case measure=>simp [intOf]
  | 4,_=>
   go_wp2
   exact bodyPost_ret (v:=.agg #[.int .u64 I,.int .u64 M,.int .u64 L,.int .u64 J]) (by simp [results,Tryz.results131,go_sem]) rfl
    ⟨I,M,L,J,O,rfl,u0,u1,u2,u3,⟨H,E,A.out⟩,below_drewN (by go_grown) _⟩
theorem p_L (a b A:Int) (H:0<=a/\a < 18446744073709551616) (hb:0<=b/\b < 18446744073709551616) (I:0<=A) (E:A<=1) (h:a < b∨IntKind.u64.wrap (a - b) < A):
  IntKind.u64.wrap (IntKind.u64.wrap (a - b) - A) - 1*18446744073709551616=a - b - A:=by
 simp only [IntKind.wrap_u64] at *;omega
theorem e_p {A M R J E V Z H c0 I O L cr t d:Int} (h:Hid (PS 0 c0 I O L - cr*BP 0=PS 0 A M R J - PS 0 E V Z H)) (e:t - d*18446744073709551616=A - E - cr):
  Hid (PS 1 t I O L - d*BP 1=PS 1 A M R J - PS 1 E V Z H):=by
 have h':=h.out;show PS 1 t I O L - d*BP 1=PS 1 A M R J - PS 1 E V Z H;simp [PS,BP] at h' ⊢;omega
theorem e_q {H A V J R E Z I L c1 O M cr t d:Int} (h:Hid (PS 1 L c1 O M - cr*BP 1=PS 1 H A V J - PS 1 R E Z I)) (e:t - d*18446744073709551616=A - E - cr):
  Hid (PS 2 L t O M - d*BP 2=PS 2 H A V J - PS 2 R E Z I):=by
 have h':=h.out;show PS 2 L t O M - d*BP 2=PS 2 H A V J - PS 2 R E Z I;simp [PS,BP] at h' ⊢;omega
theorem e_r {H R A L V Z E I M J c2 O cr t d:Int} (h:Hid (PS 2 M J c2 O - cr*BP 2=PS 2 H R A L - PS 2 V Z E I)) (e:t - d*18446744073709551616=A - E - cr):
  Hid (PS 3 M J t O - d*BP 3=PS 3 H R A L - PS 3 V Z E I):=by
 have h':=h.out;show PS 3 M J t O - d*BP 3=PS 3 H R A L - PS 3 V Z E I;simp [PS,BP] at h' ⊢;omega
theorem e_s {H L R E O V Z A J I M c3 cr t d:Int} (h:Hid (PS 3 J I M c3 - cr*BP 3=PS 3 H L R E - PS 3 O V Z A)) (e:t - d*18446744073709551616=E - A - cr):
  Hid (PS 4 J I M t - d*BP 4=PS 4 H L R E - PS 4 O V Z A):=by
 have h':=h.out;show PS 4 J I M t - d*BP 4=PS 4 H L R E - PS 4 O V Z A;simp [PS,BP] at h' ⊢;omega
theorem i_D (Z a1 a2 a3 b0 b1 b2 b3:Int) (p0:U Z) (p1:U a1) (p2:U a2) (p3:U a3) (q0:U b0) (q1:U b1) (q2:U b2) (q3:U b3) (w:World):
  Calls Tryz.prog 133 #[.agg #[.int .u64 Z,.int .u64 a1,.int .u64 a2,.int .u64 a3],.agg #[.int .u64 b0,.int .u64 b1,.int .u64 b2,.int .u64 b3]] w fun e w'=>
   ∃ E J I H V:Int,e = .returned (.agg #[.int .u64 E,.int .u64 J,.int .u64 I,.int .u64 H])/\U E/\U J/\U I/\U H/\Hid (0<=V/\V<=1/\PS 4 E J I H - V*BP 4=PS 4 Z a1 a2 a3 - PS 4 b0 b1 b2 b3)/\Below w.heap.size w w':=by
 unfold U at p0 p1 p2 p3 q0 q1 q2 q3;go_enter Tryz.func133,Tryz.ntmps133;go_wp2
 go_loopw [6,7] (fun u v wr=>∃ (k n:Nat) (V E J I H:Int),k<=4/\v = .int .i64 (k:Int)/\u = .int .u64 V/\0<=V/\V<=1/\U E/\U J/\U I/\U H/\Hid (PS k E J I H - V*BP k=PS k Z a1 a2 a3 - PS k b0 b1 b2 b3)/\
   wr=((((w.alloc (.cells #[.int .u64 Z,.int .u64 a1,.int .u64 a2,.int .u64 a3] 163)).alloc (.cells #[.int .u64 b0,.int .u64 b1,.int .u64 b2,.int .u64 b3] 163)).alloc (.cells #[.int .u64 0,.int .u64 0,.int .u64 0,.int .u64 0] 163)).alloc (.cells #[.int .u64 E,.int .u64 J,.int .u64 I,.int .u64 H] 163)).drewN n) (fun _ v _=>4 - (intOf v).toNat)
 case atStart=>exact ⟨0,0,0,0,0,0,0,by omega,rfl,rfl,by omega,by omega,by unfold U;omega,by unfold U;omega,by unfold U;omega,by unfold U;omega,by show PS 0 0 0 0 0 - 0*BP 0=PS 0 Z a1 a2 a3 - PS 0 b0 b1 b2 b3;simp [PS,BP],rfl⟩
 case round=>
  obtain ⟨k,n,V,E,J,I,H,hk,rfl,rfl,R,O,u0,u1,u2,u3,A,rfl⟩:=hrel
  match k,hk with
  | 0,_=>
   go_wp2_with fail
   go_quiet (fail)
   go_wp2_with fail
   by_cases L:Z < b0
   ·go_quiet (fail)
    go_wp2
    all_goals
     go_roundw
     case rel=>exact ⟨1,_,1,_,J,I,H,by omega,rfl,rfl,by omega,by omega,(h_N _),u1,u2,u3,e_p A (p_L _ _ _ p0 q0 R O (Or.inl (by omega))),rfl⟩
     case measure=>simp [intOf]
   ·have M:decide (Z < b0)=false:=by simpa using L
    go_quiet (fail)
    go_wp2
    all_goals
     go_roundw
     case rel=>
      first
      |exact ⟨1,_,1,_,J,I,H,by omega,rfl,rfl,by omega,by omega,(by unfold U;(try simp only [IntKind.wrap_u64]);omega),u1,u2,u3,e_p A (by (try simp only [IntKind.wrap_u64]);omega),rfl⟩
      |exact ⟨1,_,0,_,J,I,H,by omega,rfl,rfl,by omega,by omega,(by unfold U;(try simp only [IntKind.wrap_u64]);omega),u1,u2,u3,e_p A (by (try simp only [IntKind.wrap_u64]);omega),rfl⟩
     case measure=>simp [intOf]
  | 1,_=>
   go_wp2_with fail
   go_quiet (fail)
   go_wp2_with fail
   by_cases L:a1 < b1
   ·go_quiet (fail)
    go_wp2
    all_goals
     go_roundw
     case rel=>exact ⟨2,_,1,E,_,I,H,by omega,rfl,rfl,by omega,by omega,u0,(h_N _),u2,u3,e_q A (p_L _ _ _ p1 q1 R O (Or.inl (by omega))),rfl⟩
     case measure=>simp [intOf]
   ·have M:decide (a1 < b1)=false:=by simpa using L
    go_quiet (fail)
    go_wp2
    all_goals
     go_roundw
     case rel=>
      first
      |exact ⟨2,_,1,E,_,I,H,by omega,rfl,rfl,by omega,by omega,u0,(by unfold U;(try simp only [IntKind.wrap_u64]);omega),u2,u3,e_q A (by (try simp only [IntKind.wrap_u64]);omega),rfl⟩
      |exact ⟨2,_,0,E,_,I,H,by omega,rfl,rfl,by omega,by omega,u0,(by unfold U;(try simp only [IntKind.wrap_u64]);omega),u2,u3,e_q A (by (try simp only [IntKind.wrap_u64]);omega),rfl⟩
     case measure=>simp [intOf]
  | 2,_=>
   go_wp2_with fail
   go_quiet (fail)
   go_wp2_with fail
   by_cases L:a2 < b2
   ·go_quiet (fail)
    go_wp2
    all_goals
     go_roundw
     case rel=>exact ⟨3,_,1,E,J,_,H,by omega,rfl,rfl,by omega,by omega,u0,u1,(h_N _),u3,e_r A (p_L _ _ _ p2 q2 R O (Or.inl (by omega))),rfl⟩
     case measure=>simp [intOf]
   ·have M:decide (a2 < b2)=false:=by simpa using L
    go_quiet (fail)
    go_wp2
    all_goals
     go_roundw
     case rel=>
      first
      |exact ⟨3,_,1,E,J,_,H,by omega,rfl,rfl,by omega,by omega,u0,u1,(by unfold U;(try simp only [IntKind.wrap_u64]);omega),u3,e_r A (by (try simp only [IntKind.wrap_u64]);omega),rfl⟩
      |exact ⟨3,_,0,E,J,_,H,by omega,rfl,rfl,by omega,by omega,u0,u1,(by unfold U;(try simp only [IntKind.wrap_u64]);omega),u3,e_r A (by (try simp only [IntKind.wrap_u64]);omega),rfl⟩
     case measure=>simp [intOf]
  | 3,_=>
   go_wp2_with fail
   go_quiet (fail)
   go_wp2_with fail
   by_cases L:a3 < b3
   ·go_quiet (fail)
    go_wp2
    all_goals
     go_roundw
     case rel=>exact ⟨4,_,1,E,J,I,_,by omega,rfl,rfl,by omega,by omega,u0,u1,u2,(h_N _),e_s A (p_L _ _ _ p3 q3 R O (Or.inl (by omega))),rfl⟩
     case measure=>simp [intOf]
   ·have M:decide (a3 < b3)=false:=by simpa using L
    go_quiet (fail)
    go_wp2
    all_goals
     go_roundw
     case rel=>
      first
      |exact ⟨4,_,1,E,J,I,_,by omega,rfl,rfl,by omega,by omega,u0,u1,u2,(by unfold U;(try simp only [IntKind.wrap_u64]);omega),e_s A (by (try simp only [IntKind.wrap_u64]);omega),rfl⟩
      |exact ⟨4,_,0,E,J,I,_,by omega,rfl,rfl,by omega,by omega,u0,u1,u2,(by unfold U;(try simp only [IntKind.wrap_u64]);omega),e_s A (by (try simp only [IntKind.wrap_u64]);omega),rfl⟩
     case measure=>simp [intOf]
  | 4,_=>
   go_wp2
   exact bodyPost_ret (v:=.agg #[.int .u64 E,.int .u64 J,.int .u64 I,.int .u64 H]) (by simp [results,Tryz.results133,go_sem]) rfl
    ⟨E,J,I,H,V,rfl,u0,u1,u2,u3,⟨R,O,A.out⟩,below_drewN (by go_grown) _⟩
end Go.Proofs.YtkfpainpomobfaaGreatDoor.Rf
namespace Go.Proofs.YtkfpainpomobfaaGreatDoor.Rf
open Go.RowKit Fx List World Nat
attribute [local go_sem] a_Y b_f
theorem e_V {a b:Bool} (h:a=b):Ending.returned (.bool a) = .returned (.bool b):=by rw [h]
def EQ (k:Nat) (a0 a1 a2 a3 b0 b1 b2 b3:Int):Prop:=
 if k=4 then True else if k=3 then a3=b3 else if k=2 then a3=b3/\a2=b2 else if k=1 then (a3=b3/\a2=b2)/\a1=b1 else ((a3=b3/\a2=b2)/\a1=b1)/\a0=b0
theorem p_M {A H L J E M O I:Int} (h:Hid (EQ 1 A H L J E M O I)) (e:A=E):Hid (EQ 0 A H L J E M O I):=by
 have R:=h.out;simp [EQ] at R;show EQ 0 A H L J E M O I;simp [EQ];simp [R,e]
theorem p_N {H A M L J E O I:Int} (h:Hid (EQ 2 H A M L J E O I)) (e:A=E):Hid (EQ 1 H A M L J E O I):=by
 have R:=h.out;simp [EQ] at R;show EQ 1 H A M L J E O I;simp [EQ];simp [R,e]
theorem p_O {I H A M L O E J:Int} (h:Hid (EQ 3 I H A M L O E J)) (e:A=E):Hid (EQ 2 I H A M L O E J):=by
 have R:=h.out;simp [EQ] at R;show EQ 2 I H A M L O E J;simp [EQ];simp [R,e]
theorem p_P {I H L E J M O A:Int} (h:Hid (EQ 4 I H L E J M O A)) (e:E=A):Hid (EQ 3 I H L E J M O A):=by
 have R:=h.out;simp [EQ] at R;show EQ 3 I H L E J M O A;simp [EQ];simp [R,e]
theorem n_Q {A L M I E O J H:Int} (h:Hid (EQ 1 A L M I E O J H)) (p0:0<=A/\A < 18446744073709551616) (p1:0<=L/\L < 18446744073709551616) (p2:0<=M/\M < 18446744073709551616) (p3:0<=I/\I < 18446744073709551616)
  (q0:0<=E/\E < 18446744073709551616) (Z:0<=O/\O < 18446744073709551616) (V:0<=J/\J < 18446744073709551616) (q3:0<=H/\H < 18446744073709551616) (hn:¬ A=E):decide (A < E)=decide (PS 4 A L M I < PS 4 E O J H):=by
 have R:=h.out;simp [EQ] at R;rw [decide_eq_decide];simp [PS];omega
theorem n_R {H A O J M E L I:Int} (h:Hid (EQ 2 H A O J M E L I)) (p0:0<=H/\H < 18446744073709551616) (p1:0<=A/\A < 18446744073709551616) (p2:0<=O/\O < 18446744073709551616) (p3:0<=J/\J < 18446744073709551616)
  (q0:0<=M/\M < 18446744073709551616) (Z:0<=E/\E < 18446744073709551616) (V:0<=L/\L < 18446744073709551616) (q3:0<=I/\I < 18446744073709551616) (hn:¬ A=E):decide (A < E)=decide (PS 4 H A O J < PS 4 M E L I):=by
 have R:=h.out;simp [EQ] at R;rw [decide_eq_decide];simp [PS];omega
theorem n_S {H L E J M O A I:Int} (h:Hid (EQ 3 H L E J M O A I)) (p0:0<=H/\H < 18446744073709551616) (p1:0<=L/\L < 18446744073709551616) (p2:0<=E/\E < 18446744073709551616) (p3:0<=J/\J < 18446744073709551616)
  (q0:0<=M/\M < 18446744073709551616) (Z:0<=O/\O < 18446744073709551616) (V:0<=A/\A < 18446744073709551616) (q3:0<=I/\I < 18446744073709551616) (hn:¬ E=A):decide (E < A)=decide (PS 4 H L E J < PS 4 M O A I):=by
 have R:=h.out;simp [EQ] at R;rw [decide_eq_decide];simp [PS];omega
theorem n_T {H J M E L O I A:Int} (h:Hid (EQ 4 H J M E L O I A)) (p0:0<=H/\H < 18446744073709551616) (p1:0<=J/\J < 18446744073709551616) (p2:0<=M/\M < 18446744073709551616) (p3:0<=E/\E < 18446744073709551616)
  (q0:0<=L/\L < 18446744073709551616) (Z:0<=O/\O < 18446744073709551616) (V:0<=I/\I < 18446744073709551616) (q3:0<=A/\A < 18446744073709551616) (hn:¬ E=A):decide (E < A)=decide (PS 4 H J M E < PS 4 L O I A):=by
 have R:=h.out;simp [EQ] at R;rw [decide_eq_decide];simp [PS];omega
theorem k_H (I M R L V O Z J:Int) (p0:U I) (p1:U M) (p2:U R) (p3:U L) (q0:U V) (q1:U O) (q2:U Z) (q3:U J) (w:World):
  Calls Tryz.prog 132 #[.agg #[.int .u64 I,.int .u64 M,.int .u64 R,.int .u64 L],.agg #[.int .u64 V,.int .u64 O,.int .u64 Z,.int .u64 J]] w fun e w'=>
   e = .returned (.bool (decide (PS 4 I M R L < PS 4 V O Z J)))/\Below w.heap.size w w':=by
 unfold U at p0 p1 p2 p3 q0 q1 q2 q3;generalize hL:decide (PS 4 I M R L < PS 4 V O Z J)=lt;have HL:Hid (decide (PS 4 I M R L < PS 4 V O Z J)=lt):=hL;clear hL;go_enter Tryz.func132,Tryz.ntmps132;go_wp2
 go_loopw [5] (fun v wr=>∃ (k n:Nat),k<=4/\v = .int .i64 ((k:Int) - 1)/\Hid (EQ k I M R L V O Z J)/\
   wr=((w.alloc (.cells #[.int .u64 I,.int .u64 M,.int .u64 R,.int .u64 L] 163)).alloc (.cells #[.int .u64 V,.int .u64 O,.int .u64 Z,.int .u64 J] 163)).drewN n) (fun v _=>(intOf v+1).toNat)
 case atStart=>exact ⟨4,0,by omega,rfl,by show EQ 4 I M R L V O Z J;simp [EQ],rfl⟩
 case round=>
  obtain ⟨k,n,hk,rfl,H,rfl⟩:=hrel
  match k,hk with
  | 4,_=>
   by_cases A:L=J
   ·have E:(L != J)=false:=by simpa using A
    have HN:Hid (L=J):=A;clear A;go_wp2_with fail
    go_quiet (fail)
    go_wp2
    go_roundw
    case rel=>exact ⟨3,_,by omega,rfl,p_P H HN.out,rfl⟩
    case measure=>simp [intOf]
   ·have E:(L != J)=true:=by simpa using A
    clear A
    iterate 2
     go_wp2_with fail
     go_quiet (fail)
    go_wp2;go_ret;exact ⟨e_V ((n_T H p0 p1 p2 p3 q0 q1 q2 q3 (by simpa using E)).trans HL.out),(by (repeat (with_reducible refine below_drewN ?_ _));go_grown)⟩
  | 3,_=>
   by_cases A:R=Z
   ·have E:(R != Z)=false:=by simpa using A
    have HN:Hid (R=Z):=A;clear A;go_wp2_with fail
    go_quiet (fail)
    go_wp2
    go_roundw
    case rel=>exact ⟨2,_,by omega,rfl,p_O H HN.out,rfl⟩
    case measure=>simp [intOf]
   ·have E:(R != Z)=true:=by simpa using A
    clear A
    iterate 2
     go_wp2_with fail
     go_quiet (fail)
    go_wp2;go_ret;exact ⟨e_V ((n_S H p0 p1 p2 p3 q0 q1 q2 q3 (by simpa using E)).trans HL.out),(by (repeat (with_reducible refine below_drewN ?_ _));go_grown)⟩
  | 2,_=>
   by_cases A:M=O
   ·have E:(M != O)=false:=by simpa using A
    have HN:Hid (M=O):=A;clear A;go_wp2_with fail
    go_quiet (fail)
    go_wp2
    go_roundw
    case rel=>exact ⟨1,_,by omega,rfl,p_N H HN.out,rfl⟩
    case measure=>simp [intOf]
   ·have E:(M != O)=true:=by simpa using A
    clear A
    iterate 2
     go_wp2_with fail
     go_quiet (fail)
    go_wp2;go_ret;exact ⟨e_V ((n_R H p0 p1 p2 p3 q0 q1 q2 q3 (by simpa using E)).trans HL.out),(by (repeat (with_reducible refine below_drewN ?_ _));go_grown)⟩
  | 1,_=>
   by_cases A:I=V
   ·have E:(I != V)=false:=by simpa using A
    have HN:Hid (I=V):=A;clear A;go_wp2_with fail
    go_quiet (fail)
    go_wp2
    go_roundw
    case rel=>exact ⟨0,_,by omega,rfl,p_M H HN.out,rfl⟩
    case measure=>simp [intOf]
   ·have E:(I != V)=true:=by simpa using A
    clear A
    iterate 2
     go_wp2_with fail
     go_quiet (fail)
    go_wp2;go_ret;exact ⟨e_V ((n_Q H p0 p1 p2 p3 q0 q1 q2 q3 (by simpa using E)).trans HL.out),(by (repeat (with_reducible refine below_drewN ?_ _));go_grown)⟩
  | 0,_=>
   go_wp2;go_ret;refine ⟨e_V ?_,(by (repeat (with_reducible refine below_drewN ?_ _));go_grown)⟩;have h':=H.out;simp [EQ] at h';rw [<- HL.out];obtain ⟨⟨⟨h3,h2⟩,h1⟩,h0⟩:=h';rw [h3,h2,h1,h0];simp
end Go.Proofs.YtkfpainpomobfaaGreatDoor.Rf
namespace Go.Proofs.YtkfpainpomobfaaGreatDoor.Rf
open Go.RowKit Fx List World Nat
attribute [local go_sem] a_Y b_f
def IsN (v:Value) (s:Bool) (x:Int):Prop:=∃ a0 a1 a2 a3:Int,v = .agg #[.bool s,.int .u64 a0,.int .u64 a1,.int .u64 a2,.int .u64 a3]/\U a0/\U a1/\U a2/\U a3/\PS 4 a0 a1 a2 a3=x
theorem PS4 (H E A I:Int):PS 4 H E A I=H+E*18446744073709551616+A*340282366920938463463374607431768211456+I*6277101735386680763835789423207666416102355444464034512896:=by simp [PS]
theorem BP4:BP 4=115792089237316195423570985008687907853269984665640564039457584007913129639936:=by simp [BP]
theorem IsN.rng {v:Value} {s:Bool} {x:Int} (h:IsN v s x):0<=x/\x < 115792089237316195423570985008687907853269984665640564039457584007913129639936:=by
 obtain ⟨E,A,O,L,_,M,I,J,H,rfl⟩:=h;unfold U at *;rw [PS4];omega
theorem f_E (a x:Int) (I:InR a) (A:(a.natAbs:Int)=x) (w:World):
  Calls Tryz.prog 134 #[.int .i64 a] w fun e E=>e = .returned (.int .u64 x)/\E=w:=by
 unfold InR at I;have H:Hid ((a.natAbs:Int)=x):=A;clear A;by_cases h:a < 0
 all_goals
  go_enter Tryz.func134,Tryz.ntmps134;go_wp2;go_ret;refine ⟨ret_int ?_,rfl⟩;have J:=H.out
  try simp only [IntKind.wrap_u64,wrap64]
  omega
theorem d_e (n:Int) (H:InR n) (w:World):
  Calls Tryz.prog 107 #[.int .i64 n] w fun e I=>∃ v,e = .returned v/\IsN v (decide (n < 0)) (n.natAbs:Int)/\Below w.heap.size w I:=by
 obtain ⟨x,A⟩:∃ x:Int,(n.natAbs:Int)=x:=⟨_,rfl⟩
 have E:Hid ((n.natAbs:Int)=x):=A;rw [A];have J:0<=x/\x<=9223372036854775808:=by unfold InR at H;omega
 clear A;go_enter Tryz.func107,Tryz.ntmps107;go_wp2_with fail
 refine (f_E n x H E.out _).mono ?_;rintro e I ⟨rfl,rfl⟩;go_wp2
 exact bodyPost_ret (v:=.agg #[.bool (decide (n < 0)),.int .u64 x,.int .u64 0,.int .u64 0,.int .u64 0]) (by simp [results,Tryz.results107,go_sem]) rfl
  ⟨_,rfl,⟨x,0,0,0,rfl,by unfold U;omega,by unfold U;omega,by unfold U;omega,by unfold U;omega,by rw [PS4];omega⟩,by go_grown⟩
theorem l_y (v:Value) (s:Bool) (x:Int) (M:IsN v s x) (w:World):
  Calls Tryz.prog 130 #[v] w fun e Z=>∃ u,e = .returned u/\IsN u (!s) x/\Below w.heap.size w Z:=by
 obtain ⟨A,I,J,E,rfl,h0,O,V,R,L⟩:=M;have H:Hid (PS 4 A I J E=x):=L;clear L;go_enter Tryz.func130,Tryz.ntmps130;go_wp2
 exact bodyPost_ret (v:=.agg #[.bool (!s),.int .u64 A,.int .u64 I,.int .u64 J,.int .u64 E]) (by simp [results,Tryz.results130,go_sem]) rfl
  ⟨_,rfl,⟨A,I,J,E,rfl,h0,O,V,R,H.out⟩,by go_grown⟩
end Go.Proofs.YtkfpainpomobfaaGreatDoor.Rf
namespace Go.Proofs.YtkfpainpomobfaaGreatDoor.Rf
open Go.RowKit Fx List World Nat
attribute [local go_sem] a_Y b_f
theorem bcell {B:Nat} {W A:World} (hb:Below B W A):(∀ b o,b < B->A.cell? ⟨b,o,none⟩=W.cell? ⟨b,o,none⟩)/\(∀ b o,b < B->A.frozen? ⟨b,o,none⟩=W.frozen? ⟨b,o,none⟩):=
 ⟨fun b o h=>hb.cell (p:=⟨b,o,none⟩) h,fun b o h=>hb.frozen (p:=⟨b,o,none⟩) h⟩
theorem set_same {W:World} {p:Addr} {x v:Value} (h:W.cell? p=some v):(W.setCell p x).cell? p=some x:=cell?_setCell_same _ _ _ h
theorem set_off {W:World} {b i j:Nat} {x:Value} (A:j≠i):(W.setCell ⟨b,i,none⟩ x).cell? ⟨b,j,none⟩=W.cell? ⟨b,j,none⟩:=cell?_setCell_other _ _ _ _ (by simp;try omega)
theorem five (W:World) (b:Nat) (J H A E I:Value) {y0 y1 L Z O:Value} (h0:W.cell? ⟨b,0,none⟩=some y0) (M:W.cell? ⟨b,1,none⟩=some y1) (V:W.cell? ⟨b,2,none⟩=some L) (R:W.cell? ⟨b,3,none⟩=some Z) (h4:W.cell? ⟨b,4,none⟩=some O):
  (((((W.setCell ⟨b,0,none⟩ J).setCell ⟨b,1,none⟩ H).setCell ⟨b,2,none⟩ A).setCell ⟨b,3,none⟩ E).setCell ⟨b,4,none⟩ I).cell? ⟨b,0,none⟩=some J/\
  (((((W.setCell ⟨b,0,none⟩ J).setCell ⟨b,1,none⟩ H).setCell ⟨b,2,none⟩ A).setCell ⟨b,3,none⟩ E).setCell ⟨b,4,none⟩ I).cell? ⟨b,1,none⟩=some H/\
  (((((W.setCell ⟨b,0,none⟩ J).setCell ⟨b,1,none⟩ H).setCell ⟨b,2,none⟩ A).setCell ⟨b,3,none⟩ E).setCell ⟨b,4,none⟩ I).cell? ⟨b,2,none⟩=some A/\
  (((((W.setCell ⟨b,0,none⟩ J).setCell ⟨b,1,none⟩ H).setCell ⟨b,2,none⟩ A).setCell ⟨b,3,none⟩ E).setCell ⟨b,4,none⟩ I).cell? ⟨b,3,none⟩=some E/\
  (((((W.setCell ⟨b,0,none⟩ J).setCell ⟨b,1,none⟩ H).setCell ⟨b,2,none⟩ A).setCell ⟨b,3,none⟩ E).setCell ⟨b,4,none⟩ I).cell? ⟨b,4,none⟩=some I:=by
 refine ⟨?_,?_,?_,?_,?_⟩
 ·rw [set_off (by omega),set_off (by omega),set_off (by omega),set_off (by omega)];exact set_same h0
 ·rw [set_off (by omega),set_off (by omega),set_off (by omega)];exact set_same (by rw [set_off (by omega)];exact M)
 ·rw [set_off (by omega),set_off (by omega)];exact set_same (by rw [set_off (by omega),set_off (by omega)];exact V)
 ·rw [set_off (by omega)];exact set_same (by rw [set_off (by omega),set_off (by omega),set_off (by omega)];exact R)
 ·exact set_same (by rw [set_off (by omega),set_off (by omega),set_off (by omega),set_off (by omega)];exact h4)
theorem i_E (s:Bool) (O Z a2 V b0 b1 b2 R:Int) (p0:U O) (p1:U Z) (p2:U a2) (p3:U V) (q0:U b0) (q1:U b1) (q2:U b2) (q3:U R) (w:World):
  Calls Tryz.prog 100 #[.agg #[.bool s,.int .u64 O,.int .u64 Z,.int .u64 a2,.int .u64 V],.agg #[.bool s,.int .u64 b0,.int .u64 b1,.int .u64 b2,.int .u64 R]] w fun e w'=>
   ∃ E J I H M:Int,e = .returned (.agg #[.bool s,.int .u64 E,.int .u64 J,.int .u64 I,.int .u64 H])/\U E/\U J/\U I/\U H/\Hid (0<=M/\M<=1/\PS 4 E J I H+M*BP 4=PS 4 O Z a2 V+PS 4 b0 b1 b2 R)/\Below w.heap.size w w':=by
 go_enter Tryz.func100,Tryz.ntmps100;go_wp2_with fail
 go_region_with (go_at_call 131;refine (d_3 O Z a2 V b0 b1 b2 R p0 p1 p2 p3 q0 q1 q2 q3 _).mono ?_;rintro e w1 ⟨E,J,I,H,M,rfl,u0,u1,u2,u3,L,hb⟩;obtain ⟨A,aa⟩:=bcell hb;have hB:Below w.heap.size w w1:=Below.trans (by go_grown) (hb.mono (by simp;try omega));have ab:=hb.size;simp at ab)
 all_goals
  go_wp2;obtain ⟨f0,f1,f2,f3,f4⟩:=five w1 (w.heap.size+1+1) (.bool s) (.int .u64 E) (.int .u64 J) (.int .u64 I) (.int .u64 H) (by rw [A _ _ (by simp)];simp [go_sem];rfl) (by rw [A _ _ (by simp)];simp [go_sem];rfl) (by rw [A _ _ (by simp)];simp [go_sem];rfl) (by rw [A _ _ (by simp)];simp [go_sem];rfl) (by rw [A _ _ (by simp)];simp [go_sem];rfl);refine bodyPost_ret (v:=.agg #[.bool s,.int .u64 E,.int .u64 J,.int .u64 I,.int .u64 H]) (by simp [results,Tryz.results100,go_sem,f0,f1,f2,f3,f4]) rfl ⟨E,J,I,H,M,rfl,u0,u1,u2,u3,L,?_⟩;go_grown
theorem n_U (s t:Bool) (af:(s==t)=false) (V a1 a2 a3 b0 b1 b2 Z:Int) (p0:U V) (p1:U a1) (p2:U a2) (p3:U a3) (q0:U b0) (q1:U b1) (q2:U b2) (q3:U Z) (ad:Hid (decide (PS 4 V a1 a2 a3 < PS 4 b0 b1 b2 Z)=true)) (w:World):
  Calls Tryz.prog 100 #[.agg #[.bool s,.int .u64 V,.int .u64 a1,.int .u64 a2,.int .u64 a3],.agg #[.bool t,.int .u64 b0,.int .u64 b1,.int .u64 b2,.int .u64 Z]] w fun e w'=>
   ∃ J O M L cr:Int,e = .returned (.agg #[.bool t,.int .u64 J,.int .u64 O,.int .u64 M,.int .u64 L])/\U J/\U O/\U M/\U L/\Hid (0<=cr/\cr<=1/\PS 4 J O M L - cr*BP 4=PS 4 b0 b1 b2 Z - PS 4 V a1 a2 a3)/\Below w.heap.size w w':=by
 go_enter Tryz.func100,Tryz.ntmps100;go_wp2_with fail
 refine (k_H V a1 a2 a3 b0 b1 b2 Z p0 p1 p2 p3 q0 q1 q2 q3 _).mono ?_;rw [ad.out];rintro e w0 ⟨rfl,I⟩;obtain ⟨E,H⟩:=bcell I;have ag:Below w.heap.size w w0:=Below.trans (by go_grown) (I.mono (by simp;try omega));have ab:=I.size;simp at ab;go_wp2_with fail
 go_region_with (go_at_call 133;refine (i_D b0 b1 b2 Z V a1 a2 a3 q0 q1 q2 q3 p0 p1 p2 p3 _).mono ?_;rintro e w1 ⟨J,O,M,L,cr,rfl,u0,u1,u2,u3,aa,hb⟩;have ac:=Below.trans (c:=w1) I.drew (hb.mono (by simp;omega));obtain ⟨A,R⟩:=bcell ac;clear E H;simp only [World.size_alloc] at A R;have hB:Below w.heap.size w w1:=Below.trans (by go_grown) (hb.mono (by simp;try omega));have ae:=hb.size;simp at ae)
 all_goals
  go_wp2;obtain ⟨f0,f1,f2,f3,f4⟩:=five w1 (w.heap.size+1+1) (.bool t) (.int .u64 J) (.int .u64 O) (.int .u64 M) (.int .u64 L) (by rw [A _ _ (by simp)];simp [go_sem];rfl) (by rw [A _ _ (by simp)];simp [go_sem];rfl) (by rw [A _ _ (by simp)];simp [go_sem];rfl) (by rw [A _ _ (by simp)];simp [go_sem];rfl) (by rw [A _ _ (by simp)];simp [go_sem];rfl);refine bodyPost_ret (v:=.agg #[.bool t,.int .u64 J,.int .u64 O,.int .u64 M,.int .u64 L]) (by simp [results,Tryz.results100,go_sem,f0,f1,f2,f3,f4]) rfl ⟨J,O,M,L,cr,rfl,u0,u1,u2,u3,aa,?_⟩;go_grown
theorem n_V (s t:Bool) (af:(s==t)=false) (V a1 a2 a3 b0 b1 b2 Z:Int) (p0:U V) (p1:U a1) (p2:U a2) (p3:U a3) (q0:U b0) (q1:U b1) (q2:U b2) (q3:U Z) (ad:Hid (decide (PS 4 V a1 a2 a3 < PS 4 b0 b1 b2 Z)=false)) (w:World):
  Calls Tryz.prog 100 #[.agg #[.bool s,.int .u64 V,.int .u64 a1,.int .u64 a2,.int .u64 a3],.agg #[.bool t,.int .u64 b0,.int .u64 b1,.int .u64 b2,.int .u64 Z]] w fun e w'=>
   ∃ J O M L cr:Int,e = .returned (.agg #[.bool s,.int .u64 J,.int .u64 O,.int .u64 M,.int .u64 L])/\U J/\U O/\U M/\U L/\Hid (0<=cr/\cr<=1/\PS 4 J O M L - cr*BP 4=PS 4 V a1 a2 a3 - PS 4 b0 b1 b2 Z)/\Below w.heap.size w w':=by
 go_enter Tryz.func100,Tryz.ntmps100;go_wp2_with fail
 refine (k_H V a1 a2 a3 b0 b1 b2 Z p0 p1 p2 p3 q0 q1 q2 q3 _).mono ?_;rw [ad.out];rintro e w0 ⟨rfl,I⟩;obtain ⟨E,H⟩:=bcell I;have ag:Below w.heap.size w w0:=Below.trans (by go_grown) (I.mono (by simp;try omega));have ab:=I.size;simp at ab;go_wp2_with fail
 go_region_with (go_at_call 133;refine (i_D V a1 a2 a3 b0 b1 b2 Z p0 p1 p2 p3 q0 q1 q2 q3 _).mono ?_;rintro e w1 ⟨J,O,M,L,cr,rfl,u0,u1,u2,u3,aa,hb⟩;have ac:=Below.trans (c:=w1) I.drew (hb.mono (by simp;omega));obtain ⟨A,R⟩:=bcell ac;clear E H;simp only [World.size_alloc] at A R;have hB:Below w.heap.size w w1:=Below.trans (by go_grown) (hb.mono (by simp;try omega));have ae:=hb.size;simp at ae)
 all_goals
  go_wp2;obtain ⟨f0,f1,f2,f3,f4⟩:=five w1 (w.heap.size+1+1) (.bool s) (.int .u64 J) (.int .u64 O) (.int .u64 M) (.int .u64 L) (by rw [A _ _ (by simp)];simp [go_sem];rfl) (by rw [A _ _ (by simp)];simp [go_sem];rfl) (by rw [A _ _ (by simp)];simp [go_sem];rfl) (by rw [A _ _ (by simp)];simp [go_sem];rfl) (by rw [A _ _ (by simp)];simp [go_sem];rfl);refine bodyPost_ret (v:=.agg #[.bool s,.int .u64 J,.int .u64 O,.int .u64 M,.int .u64 L]) (by simp [results,Tryz.results100,go_sem,f0,f1,f2,f3,f4]) rfl ⟨J,O,M,L,cr,rfl,u0,u1,u2,u3,aa,?_⟩;go_grown
end Go.Proofs.YtkfpainpomobfaaGreatDoor.Rf
namespace Go.Proofs.YtkfpainpomobfaaGreatDoor.Rf
open Go.RowKit Fx List World Nat
attribute [local go_sem] a_Y b_f
def sv (s:Bool) (x:Int):Int:=if s then -x else x
theorem k_I (v u:Value) (s t:Bool) (x y:Int) (hv:IsN v s x) (hu:IsN u t y) (aa:x+y < 115792089237316195423570985008687907853269984665640564039457584007913129639936) (w:World):
  Calls Tryz.prog 100 #[v,u] w fun e Z=>∃ z r m,e = .returned z/\IsN z r m/\sv r m=sv s x+sv t y/\Below w.heap.size w Z:=by
 have hx:=hv.rng;have hy:=hu.rng;obtain ⟨a0,a1,a2,a3,rfl,p0,p1,p2,p3,M⟩:=hv;obtain ⟨b0,b1,b2,b3,rfl,q0,q1,q2,q3,O⟩:=hu;by_cases R:s=t
 ·subst R;refine (i_E s a0 a1 a2 a3 b0 b1 b2 b3 p0 p1 p2 p3 q0 q1 q2 q3 w).mono ?_;rintro e Z ⟨H,L,J,I,cr,rfl,u0,u1,u2,u3,A,hb⟩;refine ⟨_,s,x+y,rfl,⟨H,L,J,I,rfl,u0,u1,u2,u3,?_⟩,?_,hb⟩
  ·have h:=A.out;rw [M,O,BP4] at h;have hc:0<=PS 4 H L J I:=by rw [PS4];unfold U at *;omega
   omega
  ·unfold sv;split <;> omega
 ·have E:(s==t)=false:=by simpa using R
  by_cases V:x < y
  ·refine (n_U s t E a0 a1 a2 a3 b0 b1 b2 b3 p0 p1 p2 p3 q0 q1 q2 q3 (by show decide _=true;rw [M,O];simpa using V) w).mono ?_;rintro e Z ⟨H,L,J,I,cr,rfl,u0,u1,u2,u3,A,hb⟩;refine ⟨_,t,y - x,rfl,⟨H,L,J,I,rfl,u0,u1,u2,u3,?_⟩,?_,hb⟩
   ·have h:=A.out;rw [M,O,BP4] at h;have hc:PS 4 H L J I < 115792089237316195423570985008687907853269984665640564039457584007913129639936:=by rw [PS4];unfold U at *;omega
    omega
   ·unfold sv;cases s <;> cases t <;> simp at*<;> omega
  ·refine (n_V s t E a0 a1 a2 a3 b0 b1 b2 b3 p0 p1 p2 p3 q0 q1 q2 q3 (by show decide _=false;rw [M,O];simpa using V) w).mono ?_;rintro e Z ⟨H,L,J,I,cr,rfl,u0,u1,u2,u3,A,hb⟩;refine ⟨_,s,x - y,rfl,⟨H,L,J,I,rfl,u0,u1,u2,u3,?_⟩,?_,hb⟩
   ·have h:=A.out;rw [M,O,BP4] at h;have hc:PS 4 H L J I < 115792089237316195423570985008687907853269984665640564039457584007913129639936:=by rw [PS4];unfold U at *;omega
    omega
   ·unfold sv;cases s <;> cases t <;> simp at*<;> omega
theorem n_W (a b:Int) (A:U a) (hb:U b):U (bits .or .u64 a b)/\(bits .or .u64 a b=0↔a=0/\b=0):=by
 obtain ⟨a,rfl⟩:=Int.eq_ofNat_of_zero_le A.1;obtain ⟨b,rfl⟩:=Int.eq_ofNat_of_zero_le hb.1;unfold U at *;have h:a ||| b < 2 ^ 64:=or_lt_two_pow (by omega) (by omega);rw [bits_or_u64_nat a b (by omega) (by omega)];refine ⟨by omega,?_⟩;have:=@or_eq_zero_iff a b;omega
theorem d_4 (v:Value) (s:Bool) (x:Int) (hv:IsN v s x) (w:World):
  Calls Tryz.prog 102 #[v] w fun e w'=>e = .returned (.int .i64 (hold (sv s x)))/\Below w.heap.size w w':=by
 have hx:=hv.rng;obtain ⟨A,M,R,L,rfl,p0,p1,p2,p3,V⟩:=hv;have O:=n_W M R p1 p2;have H:=n_W _ L O.1 p3;obtain ⟨o,eo⟩:∃ o,bits .or .u64 (bits .or .u64 M R) L=o:=⟨_,rfl⟩
 rw [eo] at H;rw [PS4] at V;obtain ⟨z,E⟩:∃ z,hold (sv s x)=z:=⟨_,rfl⟩
 rw [E]
 have J:((o != 0)=true/\lim s=z)∨((o != 0)=false/\9223372036854775808<=A/\lim s=z)∨((o != 0)=false/\A < 9223372036854775808/\0<=A/\(if s then -A else A)=z):=by
  unfold U at *;rw [O.2] at H;by_cases I:o=0
  ·have hz:=H.2.1 I;by_cases h1:9223372036854775808<=A
   ·refine Or.inr (Or.inl ⟨by simpa using I,h1,?_⟩);rw [<- E];cases s
    ·rw [e_7 (by simp [sv];omega)];rfl
    ·rw [e_8 (by simp [sv];omega)];rfl
   ·refine Or.inr (Or.inr ⟨by simpa using I,by omega,by omega,?_⟩);rw [<- E];have e:x=A:=by omega
    subst e;cases s
    ·rw [d_B (by simp [sv];omega) (by simp [sv];omega)];rfl
    ·rw [d_B (by simp [sv];omega) (by simp [sv];omega)];rfl
  ·refine Or.inl ⟨by simpa using I,?_⟩;have hz:¬ ((M=0/\R=0)/\L=0):=fun h=>I (H.2.2 h);rw [<- E];cases s
   ·rw [e_7 (by simp [sv];omega)];rfl
   ·rw [e_8 (by simp [sv];omega)];rfl
 clear E V hx O H;unfold U at p0 p1 p2 p3;rcases J with ⟨k1,Z⟩|⟨k1,Z,k3⟩|⟨k1,Z,k3,k4⟩
 all_goals
  cases s
 all_goals
  go_enter Tryz.func102,Tryz.ntmps102;go_wp2;go_ret;exact ⟨ret_int (by assumption),by go_grown⟩
end Go.Proofs.YtkfpainpomobfaaGreatDoor.Rf
