/- What the functions of package wide hand  -/
import Derived.Test.YtjlofobnmjompaaGreatDoorP03
import Derived.Shelf.Spec.BitsCarry
import Derived.Shelf.Spec.TrailingZeros
import Derived.Deep.RegionWith
set_option linter.unusedVariables false
set_option linter.unusedSimpArgs false
set_option maxHeartbeats 16000000
set_option maxRecDepth 16000
namespace Go.Proofs.YtjlofobnmjompaaGreatDoor.Wd
open Go.RowKit Fx
theorem f_u {B:Nat} {W D:World} (hb:Below B W D):(∀ b o,b < B->D.cell? ⟨b,o,none⟩=W.cell? ⟨b,o,none⟩)/\(∀ b o,b < B->D.frozen? ⟨b,o,none⟩=W.frozen? ⟨b,o,none⟩):=
 ⟨fun b o h=>hb.cell (p:=⟨b,o,none⟩) h,fun b o h=>hb.frozen (p:=⟨b,o,none⟩) h⟩
theorem b_p {W:World} {p:Addr} {x v:Value} (h:W.cell? p=some v):(W.setCell p x).cell? p=some x:=World.cell?_setCell_same _ _ _ h
theorem a_w {W:World} {b i j:Nat} {x:Value} (D:j≠i):(W.setCell ⟨b,i,none⟩ x).cell? ⟨b,j,none⟩=W.cell? ⟨b,j,none⟩:=World.cell?_setCell_other _ _ _ _ (by simp;try omega)
theorem two (W:World) (b:Nat) (E D:Value) {y0 y1:Value} (H:W.cell? ⟨b,0,none⟩=some y0) (I:W.cell? ⟨b,1,none⟩=some y1):
  ((W.setCell ⟨b,0,none⟩ E).setCell ⟨b,1,none⟩ D).cell? ⟨b,0,none⟩=some E/\((W.setCell ⟨b,0,none⟩ E).setCell ⟨b,1,none⟩ D).cell? ⟨b,1,none⟩=some D:=by
 refine ⟨?_,?_⟩
 ·rw [a_w (by omega)];exact b_p H
 ·exact b_p (by rw [a_w (by omega)];exact I)
theorem ret_int {k:IntKind} {a b:Int} (h:a=b):Ending.returned (.int k a) = .returned (.int k b):=by rw [h]
/-- The two words of a number. -/
theorem words {v:Int} (D:InW v):∃ h l:Int,wd v = .agg #[.int .i64 h,.int .u64 l]/\-9223372036854775808<=h/\h<=9223372036854775807/\0<=l/\l<=18446744073709551615/\Hid (v=h*18446744073709551616+l):=by
 refine ⟨_,_,rfl,?_⟩;unfold InW at D;refine ⟨by omega,by omega,by omega,by omega,show _=_ by omega⟩
theorem of_any (n:Int) (D:InR n) (w:World):
  Calls Tryz.prog 31 #[.int .i64 n] w fun e E=>e = .returned (wd n)/\Below w.heap.size w E:=by
 obtain ⟨h,l,e,J,M,I,L,H⟩:=words (InR.w D);rw [e];unfold InR at D;go_enter Tryz.func31,Tryz.ntmps31;go_wp2;refine bodyPost_ret (v:=.agg #[.int .i64 h,.int .u64 l]) ?_ rfl ⟨rfl,by go_grown⟩;have:=H.out;simp [results,Tryz.results31,go_sem]
 try simp only [IntKind.wrap_u64,wrap64]
 constructor <;> omega
theorem s_L (x y:Int) (E:0<=x) (D:0<=y) (w:World):(callFunc 32 #[.int .u64 x,.int .u64 y,.int .u64 0]).run Tryz.prog w =
  .ok (.value (.tuple #[.int .u64 ((x+y) % 18446744073709551616),.int .u64 ((x+y) / 18446744073709551616)])) w:=by
 obtain ⟨x,rfl⟩:=Int.eq_ofNat_of_zero_le E;obtain ⟨y,rfl⟩:=Int.eq_ofNat_of_zero_le D;rw [run_callFunc_extern Tryz.func32 (by kernel_rfl) (by kernel_rfl) (by kernel_rfl) (e:=add64Entry) (by kernel_rfl)];refine (congrArg (fun r=>Result.andThen r _) (run_add64 (x:Int) (y:Int) 0 (by omega) (by omega) (by omega) (by omega) w)).trans ?_;simp only [Result.andThen]
 congr 5 <;> omega
theorem s_M (x y:Int) (H:0<=x) (E:0<=y) (D:y<=18446744073709551615) (w:World):(callFunc 197 #[.int .u64 x,.int .u64 y,.int .u64 0]).run Tryz.prog w =
  .ok (.value (.tuple #[.int .u64 ((x+18446744073709551616 - y) % 18446744073709551616),.int .u64 (if x < y then 1 else 0)])) w:=by
 obtain ⟨x,rfl⟩:=Int.eq_ofNat_of_zero_le H;obtain ⟨y,rfl⟩:=Int.eq_ofNat_of_zero_le E;rw [run_callFunc_extern Tryz.func197 (by kernel_rfl) (by kernel_rfl) (by kernel_rfl) (e:=sub64Entry) (by kernel_rfl)];refine (congrArg (fun r=>Result.andThen r _) (run_sub64 x y 0 (by omega) w)).trans ?_;simp only [Result.andThen]
 congr 5
 ·have:((x+18446744073709551616 - y - 0:Nat):Int)=(x:Int)+18446744073709551616 - y:=by omega
  rw [<- this];rfl
 ·by_cases h:x < y
  ·rw [if_pos (by omega),if_pos (by omega)];rfl
  ·rw [if_neg (by omega),if_neg (by omega)];rfl
theorem add_any (a b:Int) (J:InW a) (hb:InW b) (w:World):
  Calls Tryz.prog 17 #[wd a,wd b] w fun e R=>e = .returned (wd (wr (a+b)))/\Below w.heap.size w R:=by
 obtain ⟨ah,al,U,a1,a2,M,a4,D⟩:=words J;obtain ⟨bh,E,L,V,b2,O,b4,I⟩:=words hb;obtain ⟨h,l,e,h1,h2,l1,l2,H⟩:=words (c_9 (a+b));rw [U,L,e];go_enter Tryz.func17,Tryz.ntmps17;go_wp2_with (simp only [s_L al E M O])
 refine bodyPost_ret (v:=.agg #[.int .i64 h,.int .u64 l]) ?_ rfl ⟨rfl,by go_grown⟩;have:=D.out;have:=I.out;have:=H.out;simp [results,Tryz.results17,go_sem]
 try simp only [IntKind.wrap_u64,wrap64]
 unfold wr at *;constructor <;> omega
theorem sub_any (a b:Int) (ha:InW a) (hb:InW b) (w:World):
  Calls Tryz.prog 194 #[wd a,wd b] w fun e w'=>e = .returned (wd (wr (a - b)))/\Below w.heap.size w w':=by
 obtain ⟨ah,al,ea,a1,a2,R,a4,U⟩:=words ha;obtain ⟨bh,E,eb,b1,b2,b3,O,V⟩:=words hb;obtain ⟨h,l,e,h1,h2,l1,l2,H⟩:=words (c_9 (a - b));rw [ea,eb,e];have M:=s_M al E R b3 O;obtain ⟨D,L⟩:∃ D:Int,(if al < E then 1 else 0)=D:=⟨_,rfl⟩
 rw [L] at M;have I:(al < E/\D=1)∨(E<=al/\D=0):=by rw [<- L];split <;> omega
 have J:Hid ((al < E/\D=1)∨(E<=al/\D=0)):=I;have aa:0<=D/\D<=1:=by omega
 clear I L;go_enter Tryz.func194,Tryz.ntmps194;go_wp2_with (simp only [M])
 refine bodyPost_ret (v:=.agg #[.int .i64 h,.int .u64 l]) ?_ rfl ⟨rfl,by go_grown⟩;have:=U.out;have:=V.out;have:=H.out;have:=J.out;simp [results,Tryz.results194,go_sem]
 try simp only [IntKind.wrap_u64,wrap64]
 unfold wr at *;constructor <;> omega
theorem neg_any (a:Int) (M:InW a) (w:World):
  Calls Tryz.prog 190 #[wd a] w fun e L=>e = .returned (wd (wr (-a)))/\Below w.heap.size w L:=by
 obtain ⟨U,al,J,a1,a2,a3,a4,Ha⟩:=words M;obtain ⟨h,l,e,h1,h2,l1,l2,H⟩:=words (c_9 (-a))
 have hs:∀ W:World,Calls Tryz.prog 194 #[.agg #[.int .i64 0,.int .u64 0],.agg #[.int .i64 U,.int .u64 al]] W fun e L=>e = .returned (.agg #[.int .i64 h,.int .u64 l])/\Below W.heap.size W L:=by
  intro W;have:=sub_any 0 a (by unfold InW;omega) M W;rw [Int.zero_sub,e,J] at this;exact this
 rw [J,e];clear J e;go_enter Tryz.func190,Tryz.ntmps190;go_wp2_with fail
 refine (hs _).mono ?_;rintro e' O ⟨rfl,hb⟩;obtain ⟨D,E⟩:=f_u hb;have hB:Below w.heap.size w O:=Below.trans (by go_grown) (hb.mono (by simp;try omega));have I:=hb.size;simp at I;go_wp2;obtain ⟨V,R⟩:=two O (w.heap.size+1) (.int .i64 h) (.int .u64 l) (by rw [D _ _ (by simp)];simp [go_sem];rfl) (by rw [D _ _ (by simp)];simp [go_sem];rfl);refine bodyPost_ret (v:=.agg #[.int .i64 h,.int .u64 l]) (by simp [results,Tryz.results190,go_sem,V,R]) rfl ⟨rfl,by go_grown⟩
theorem bound_any (b:Bool) (w:World):
  Calls Tryz.prog 178 #[.bool b] w fun e D=>e = .returned (.int .i64 (lim b))/\D=w:=by
 cases b
 all_goals
  go_enter Tryz.func178,Tryz.ntmps178;go_wp2;go_ret;exact ⟨rfl,rfl⟩
theorem f_v (a n:Int) (E:InR a) (D:(a.natAbs:Int)=n) (w:World):
  Calls Tryz.prog 181 #[.int .i64 a] w fun e I=>e = .returned (.int .u64 n)/\I=w:=by
 unfold InR at E;have H:Hid ((a.natAbs:Int)=n):=D;clear D;by_cases h:a < 0
 all_goals
  go_enter Tryz.func181,Tryz.ntmps181;go_wp2;go_ret;refine ⟨ret_int ?_,rfl⟩;have D:=H.out
  try simp only [IntKind.wrap_u64]
  omega
theorem e_u (b:Bool) (a:Int) (M:InW a) (w:World):
  Calls Tryz.prog 180 #[.bool b,wd a] w fun e L=>e = .returned (wd (if b then wr (-a) else a))/\Below w.heap.size w L:=by
 obtain ⟨O,al,E,a1,a2,a3,a4,Ha⟩:=words M;cases b
 ·simp only [Bool.false_eq_true,if_false];rw [E];clear E;go_enter Tryz.func180,Tryz.ntmps180;go_wp2;exact bodyPost_ret (v:=.agg #[.int .i64 O,.int .u64 al]) (by simp [results,Tryz.results180,go_sem]) rfl ⟨rfl,by go_grown⟩
 ·simp only [if_true];obtain ⟨h,l,e,h1,h2,l1,l2,H⟩:=words (c_9 (-a))
  have hs:∀ W:World,Calls Tryz.prog 190 #[.agg #[.int .i64 O,.int .u64 al]] W fun e L=>e = .returned (.agg #[.int .i64 h,.int .u64 l])/\Below W.heap.size W L:=by
   intro W;have:=neg_any a M W;rw [e,E] at this;exact this
  rw [E,e];clear E e;go_enter Tryz.func180,Tryz.ntmps180;go_wp2_with fail
  refine (hs _).mono ?_;rintro e' R ⟨rfl,hb⟩;obtain ⟨D,I⟩:=f_u hb;have hB:Below w.heap.size w R:=Below.trans (by go_grown) (hb.mono (by simp;try omega));have J:=hb.size;simp at J;go_wp2;obtain ⟨V,U⟩:=two R (w.heap.size+1) (.int .i64 h) (.int .u64 l) (by rw [D _ _ (by simp)];simp [go_sem];rfl) (by rw [D _ _ (by simp)];simp [go_sem];rfl);refine bodyPost_ret (v:=.agg #[.int .i64 h,.int .u64 l]) (by simp [results,Tryz.results180,go_sem,V,U]) rfl ⟨rfl,by go_grown⟩
theorem l_J (a b:Int):a*b=sg (Fx.differ a b) (a.natAbs*b.natAbs):=by
 unfold sg Fx.differ;rw [<- Int.natAbs_mul];have E:0<=a->0<=b->0<=a*b:=Int.mul_nonneg;have M:a < 0->b < 0->0<=a*b:=fun h D=>Int.mul_nonneg_of_nonpos_of_nonpos (by omega) (by omega);have L:a < 0->0<=b->a*b<=0:=fun h D=>Int.mul_nonpos_of_nonpos_of_nonneg (by omega) D;have J:0<=a->b < 0->a*b<=0:=fun h D=>Int.mul_nonpos_of_nonneg_of_nonpos h (by omega);by_cases I:a < 0 <;> by_cases H:b < 0 <;> simp [I,H] <;> omega
theorem l_K (a b:Int) (D:InR a) (hb:InR b):a.natAbs*b.natAbs<=85070591730234615865843651857942052864:=by
 unfold InR at *
 calc a.natAbs*b.natAbs<=9223372036854775808*9223372036854775808:=Nat.mul_le_mul (by omega) (by omega)
  _=_:=by decide
theorem n_1 (a b:Int) (R:InR a) (hb:InR b) (w:World):
  Calls Tryz.prog 177 #[.int .i64 a,.int .i64 b] w fun e I=>e = .returned (wd (a*b))/\Below w.heap.size w I:=by
 have hp:=l_K a b R hb;have E:=l_J a b;obtain ⟨m,em⟩:∃ m,a.natAbs*b.natAbs=m:=⟨_,rfl⟩
 rw [em] at hp E;obtain ⟨x,L,J,hx,h1,l1⟩:∃ x L J:Int,x=(m:Int)/\L=x / 18446744073709551616/\J=x % 18446744073709551616:=⟨_,_,_,rfl,rfl,rfl⟩
 have hw:InW x:=by unfold InW;omega
 have e0:Value.agg #[.int .i64 L,.int .u64 J]=wd x:=by rw [h1,l1];rfl
 have M:InW (a*b):=by rw [E];unfold InW sg;split <;> omega
 obtain ⟨h,l,e,g1,g2,g3,g4,H⟩:=words M
 have hm:∀ W:World,Calls Tryz.prog 130 #[.int .u64 (a.natAbs:Int),.int .u64 (b.natAbs:Int)] W fun e I=>e = .returned (.tuple #[.int .u64 L,.int .u64 J])/\I=W:=by
  intro W;have:=Tryz.bits_Mul64 a.natAbs b.natAbs (by unfold InR at R;omega) (by unfold InR at hb;omega) W;rw [em] at this;have q1:((m / 18446744073709551616:Nat):Int)=L:=by omega
  have q2:((m % 18446744073709551616:Nat):Int)=J:=by omega
  rw [q1,q2] at this;exact this
 have hs:∀ W:World,Calls Tryz.prog 180 #[.bool (Fx.differ a b),.agg #[.int .i64 L,.int .u64 J]] W fun e I=>e = .returned (.agg #[.int .i64 h,.int .u64 l])/\Below W.heap.size W I:=by
  intro W;have:=e_u (Fx.differ a b) x hw W
  have e2:(if Fx.differ a b then wr (-x) else x)=a*b:=by
   rw [E];unfold sg
   split
   ·unfold wr;omega
   ·omega
  rw [e2,e,<- e0] at this;exact this
 have b1:0<=L/\L<=4611686018427387904:=by omega
 have b2:0<=J/\J<=18446744073709551615:=by omega
 obtain ⟨p,U⟩:∃ p:Int,(a.natAbs:Int)=p:=⟨_,rfl⟩
 obtain ⟨q,eq⟩:∃ q:Int,(b.natAbs:Int)=q:=⟨_,rfl⟩
 have ca:∀ W:World,Calls Tryz.prog 181 #[.int .i64 a] W fun e I=>e = .returned (.int .u64 p)/\I=W:=fun W=>f_v a p R U W;have cb:∀ W:World,Calls Tryz.prog 181 #[.int .i64 b] W fun e I=>e = .returned (.int .u64 q)/\I=W:=fun W=>f_v b q hb eq W;rw [U,eq] at hm;unfold InR at R hb;have p1:0<=p/\p<=9223372036854775808:=by omega
 have q1:0<=q/\q<=9223372036854775808:=by omega
 rw [e];clear e e0 M hw hx h1 l1 hp E em H U eq;unfold Fx.differ at hs;go_enter Tryz.func177,Tryz.ntmps177;go_wp2_with fail
 refine (ca _).mono ?_;rintro e' O ⟨rfl,rfl⟩;go_wp2_with fail
 refine (cb _).mono ?_;rintro e' O ⟨rfl,rfl⟩;go_wp2_with fail
 refine (hm _).mono ?_;rintro e' O ⟨rfl,rfl⟩;go_wp2_with fail
 refine (hs _).mono ?_;rintro e' O ⟨rfl,hb⟩;obtain ⟨D,V⟩:=f_u hb;have hB:Below w.heap.size w O:=Below.trans (by go_grown) (hb.mono (by simp;try omega));have aa:=hb.size;simp at aa;go_wp2;obtain ⟨f0,f1⟩:=two O w.heap.size (.int .i64 h) (.int .u64 l) (by rw [D _ _ (by simp)];simp [go_sem];rfl) (by rw [D _ _ (by simp)];simp [go_sem];rfl);refine bodyPost_ret (v:=.agg #[.int .i64 h,.int .u64 l]) (by simp [results,Tryz.results177,go_sem,f0,f1]) rfl ⟨rfl,by go_grown⟩
theorem n_2 (x:Int):InR (IntKind.i64.wrap x):=by unfold InR;rw [IntKind.wrap_i64];omega
theorem s_N (al:Int) (E:0<=al/\al<=18446744073709551615) (W:World):Calls Tryz.prog 31 #[.int .i64 (IntKind.i64.wrap al)] W fun e D=>e = .returned (.agg #[.int .i64 (if al < 9223372036854775808 then 0 else -1),.int .u64 al])/\Below W.heap.size W D:=by
 have:=of_any (IntKind.i64.wrap al) (n_2 al) W
 have e:wd (IntKind.i64.wrap al) = .agg #[.int .i64 (if al < 9223372036854775808 then 0 else -1),.int .u64 al]:=by
  refine (k_y ?_ ?_).symm
  ·rw [IntKind.wrap_i64];split <;> omega
  ·rw [IntKind.wrap_i64];omega
 rw [e] at this;exact this
theorem e_v (a:Int) (V:InW a) (w:World):
  Calls Tryz.prog 152 #[wd a] w fun e w'=>e = .returned (.int .i64 (hold a))/\Below w.heap.size w w':=by
 obtain ⟨ah,al,ea,a1,a2,a3,a4,R⟩:=words V;have O:=s_N al ⟨a3,a4⟩;obtain ⟨H,J⟩:∃ H:Int,(if al < 9223372036854775808 then 0 else -1)=H:=⟨_,rfl⟩
 rw [J] at O;have U:Hid ((if al < 9223372036854775808 then 0 else -1)=H):=J;have ob:-1<=H/\H<=0:=by rw [<- J];split <;> omega
 rw [ea];clear ea J;by_cases h:H=ah
 ·subst h;go_enter Tryz.func152,Tryz.ntmps152;go_wp2_with fail
  go_region_with (go_at_call 31;refine (O _).mono ?_;rintro e' M ⟨rfl,hb⟩;obtain ⟨D,E⟩:=f_u hb;have hB:Below w.heap.size w M:=Below.trans (by go_grown) (hb.mono (by simp;try omega));have I:=hb.size;simp at I)
  all_goals
   go_wp2;go_ret;refine ⟨ret_int ?_,by go_grown⟩;have h1:=R.out;have L:=U.out
   try simp only [IntKind.wrap_i64,wrap64]
   unfold hold
   split at L <;> split <;> (try split) <;> omega
 ·have aa:(H==ah)=false:=by simpa using h
  go_enter Tryz.func152,Tryz.ntmps152;go_wp2_with fail
  go_region_with (go_at_call 31;refine (O _).mono ?_;rintro e' M ⟨rfl,hb⟩;obtain ⟨D,E⟩:=f_u hb;have hB:Below w.heap.size w M:=Below.trans (by go_grown) (hb.mono (by simp;try omega));have I:=hb.size;simp at I)
  all_goals
   go_wp2_with (go_at_call 178;refine (bound_any _ _).mono ?_;rintro e' w2 ⟨rfl,rfl⟩)
   go_ret;refine ⟨ret_int ?_,by go_grown⟩;have h1:=R.out;have L:=U.out;unfold InW at V;unfold lim hold;simp only [decide_eq_true_eq]
   split at L <;> split <;> split <;> (try split) <;> omega
end Go.Proofs.YtjlofobnmjompaaGreatDoor.Wd
