/- What the functions of package wide hand  -/
import Derived.Test.YtkfpainpomobfaaGreatDoorR03
import Derived.Shelf.Spec.BitsCarry
import Derived.Shelf.Spec.TrailingZeros
import Derived.Deep.RegionWith
set_option linter.unusedVariables false
set_option linter.unusedSimpArgs false
set_option maxHeartbeats 16000000
set_option maxRecDepth 16000
namespace Go.Proofs.YtkfpainpomobfaaGreatDoor.Wd
open Go.RowKit Fx List World Nat
theorem bcell {B:Nat} {W A:World} (hb:Below B W A):(∀ b o,b < B->A.cell? ⟨b,o,none⟩=W.cell? ⟨b,o,none⟩)/\(∀ b o,b < B->A.frozen? ⟨b,o,none⟩=W.frozen? ⟨b,o,none⟩):=
 ⟨fun b o h=>hb.cell (p:=⟨b,o,none⟩) h,fun b o h=>hb.frozen (p:=⟨b,o,none⟩) h⟩
theorem b_V {W:World} {p:Addr} {x v:Value} (h:W.cell? p=some v):(W.setCell p x).cell? p=some x:=cell?_setCell_same _ _ _ h
theorem a_D {W:World} {b i j:Nat} {x:Value} (A:j≠i):(W.setCell ⟨b,i,none⟩ x).cell? ⟨b,j,none⟩=W.cell? ⟨b,j,none⟩:=cell?_setCell_other _ _ _ _ (by simp;try omega)
theorem two (W:World) (b:Nat) (E A:Value) {y0 y1:Value} (I:W.cell? ⟨b,0,none⟩=some y0) (H:W.cell? ⟨b,1,none⟩=some y1):
  ((W.setCell ⟨b,0,none⟩ E).setCell ⟨b,1,none⟩ A).cell? ⟨b,0,none⟩=some E/\((W.setCell ⟨b,0,none⟩ E).setCell ⟨b,1,none⟩ A).cell? ⟨b,1,none⟩=some A:=by
 refine ⟨?_,?_⟩
 ·rw [a_D (by omega)];exact b_V I
 ·exact b_V (by rw [a_D (by omega)];exact H)
theorem ret_int {k:IntKind} {a b:Int} (h:a=b):Ending.returned (.int k a) = .returned (.int k b):=by rw [h]
/-- The two words of a number. -/
theorem words {v:Int} (A:InW v):∃ h l:Int,wd v = .agg #[.int .i64 h,.int .u64 l]/\-9223372036854775808<=h/\h<=9223372036854775807/\0<=l/\l<=18446744073709551615/\Hid (v=h*18446744073709551616+l):=by
 refine ⟨_,_,rfl,?_⟩;unfold InW at A;refine ⟨by omega,by omega,by omega,by omega,show _=_ by omega⟩
theorem of_any (n:Int) (A:InR n) (w:World):
  Calls Tryz.prog 185 #[.int .i64 n] w fun e E=>e = .returned (wd n)/\Below w.heap.size w E:=by
 obtain ⟨h,l,e,I,J,M,L,H⟩:=words (InR.w A);rw [e];unfold InR at A;go_enter Tryz.func185,Tryz.ntmps185;go_wp2;refine bodyPost_ret (v:=.agg #[.int .i64 h,.int .u64 l]) ?_ rfl ⟨rfl,by go_grown⟩;have:=H.out;simp [results,Tryz.results185,go_sem]
 try simp only [IntKind.wrap_u64,wrap64]
 constructor <;> omega
theorem t_D (x y:Int) (A:0<=x) (E:0<=y) (w:World):(callFunc 211 #[.int .u64 x,.int .u64 y,.int .u64 0]).run Tryz.prog w =
  .ok (.value (.tuple #[.int .u64 ((x+y) % 18446744073709551616),.int .u64 ((x+y) / 18446744073709551616)])) w:=by
 obtain ⟨x,rfl⟩:=Int.eq_ofNat_of_zero_le A;obtain ⟨y,rfl⟩:=Int.eq_ofNat_of_zero_le E;rw [run_callFunc_extern Tryz.func211 (by kernel_rfl) (by kernel_rfl) (by kernel_rfl) (e:=add64Entry) (by kernel_rfl)];refine (congrArg (fun r=>Result.andThen r _) (run_add64 (x:Int) (y:Int) 0 (by omega) (by omega) (by omega) (by omega) w)).trans ?_;simp only [Result.andThen]
 congr 5 <;> omega
theorem t_E (x y:Int) (A:0<=x) (H:0<=y) (E:y<=18446744073709551615) (w:World):(callFunc 222 #[.int .u64 x,.int .u64 y,.int .u64 0]).run Tryz.prog w =
  .ok (.value (.tuple #[.int .u64 ((x+18446744073709551616 - y) % 18446744073709551616),.int .u64 (if x < y then 1 else 0)])) w:=by
 obtain ⟨x,rfl⟩:=Int.eq_ofNat_of_zero_le A;obtain ⟨y,rfl⟩:=Int.eq_ofNat_of_zero_le H;rw [run_callFunc_extern Tryz.func222 (by kernel_rfl) (by kernel_rfl) (by kernel_rfl) (e:=sub64Entry) (by kernel_rfl)];refine (congrArg (fun r=>Result.andThen r _) (run_sub64 x y 0 (by omega) w)).trans ?_;simp only [Result.andThen]
 congr 5
 ·have:((x+18446744073709551616 - y - 0:Nat):Int)=(x:Int)+18446744073709551616 - y:=by omega
  rw [<- this];rfl
 ·by_cases h:x < y
  ·rw [if_pos (by omega),if_pos (by omega)];rfl
  ·rw [if_neg (by omega),if_neg (by omega)];rfl
theorem add_any (a b:Int) (L:InW a) (hb:InW b) (w:World):
  Calls Tryz.prog 187 #[wd a,wd b] w fun e V=>e = .returned (wd (wr (a+b)))/\Below w.heap.size w V:=by
 obtain ⟨ah,Z,O,a1,a2,J,a4,E⟩:=words L;obtain ⟨bh,R,I,b1,b2,A,b4,M⟩:=words hb;obtain ⟨h,l,e,h1,h2,l1,l2,H⟩:=words (j_7 (a+b));rw [O,I,e];go_enter Tryz.func187,Tryz.ntmps187;go_wp2_with (simp only [t_D Z R J A])
 refine bodyPost_ret (v:=.agg #[.int .i64 h,.int .u64 l]) ?_ rfl ⟨rfl,by go_grown⟩;have:=E.out;have:=M.out;have:=H.out;simp [results,Tryz.results187,go_sem]
 try simp only [IntKind.wrap_u64,wrap64]
 unfold wr at *;constructor <;> omega
theorem sub_any (a b:Int) (ha:InW a) (hb:InW b) (w:World):
  Calls Tryz.prog 221 #[wd a,wd b] w fun e w'=>e = .returned (wd (wr (a - b)))/\Below w.heap.size w w':=by
 obtain ⟨ah,E,ea,a1,a2,a3,a4,V⟩:=words ha;obtain ⟨bh,I,Z,b1,b2,R,b4,Hb⟩:=words hb;obtain ⟨h,l,e,h1,h2,l1,l2,H⟩:=words (j_7 (a - b));rw [ea,Z,e];have O:=t_E E I a3 R b4;obtain ⟨A,L⟩:∃ A:Int,(if E < I then 1 else 0)=A:=⟨_,rfl⟩
 rw [L] at O;have J:(E < I/\A=1)∨(I<=E/\A=0):=by rw [<- L];split <;> omega
 have M:Hid ((E < I/\A=1)∨(I<=E/\A=0)):=J;have aa:0<=A/\A<=1:=by omega
 clear J L;go_enter Tryz.func221,Tryz.ntmps221;go_wp2_with (simp only [O])
 refine bodyPost_ret (v:=.agg #[.int .i64 h,.int .u64 l]) ?_ rfl ⟨rfl,by go_grown⟩;have:=V.out;have:=Hb.out;have:=H.out;have:=M.out;simp [results,Tryz.results221,go_sem]
 try simp only [IntKind.wrap_u64,wrap64]
 unfold wr at *;constructor <;> omega
theorem neg_any (a:Int) (M:InW a) (w:World):
  Calls Tryz.prog 213 #[wd a] w fun e L=>e = .returned (wd (wr (-a)))/\Below w.heap.size w L:=by
 obtain ⟨Z,al,E,a1,a2,a3,a4,Ha⟩:=words M;obtain ⟨h,l,e,h1,h2,l1,l2,H⟩:=words (j_7 (-a))
 have R:∀ W:World,Calls Tryz.prog 221 #[.agg #[.int .i64 0,.int .u64 0],.agg #[.int .i64 Z,.int .u64 al]] W fun e L=>e = .returned (.agg #[.int .i64 h,.int .u64 l])/\Below W.heap.size W L:=by
  intro W;have:=sub_any 0 a (by unfold InW;omega) M W;rw [Int.zero_sub,e,E] at this;exact this
 rw [E,e];clear E e;go_enter Tryz.func213,Tryz.ntmps213;go_wp2_with fail
 refine (R _).mono ?_;rintro e' O ⟨rfl,hb⟩;obtain ⟨A,I⟩:=bcell hb;have hB:Below w.heap.size w O:=Below.trans (by go_grown) (hb.mono (by simp;try omega));have J:=hb.size;simp at J;go_wp2;obtain ⟨f0,V⟩:=two O (w.heap.size+1) (.int .i64 h) (.int .u64 l) (by rw [A _ _ (by simp)];simp [go_sem];rfl) (by rw [A _ _ (by simp)];simp [go_sem];rfl);refine bodyPost_ret (v:=.agg #[.int .i64 h,.int .u64 l]) (by simp [results,Tryz.results213,go_sem,f0,V]) rfl ⟨rfl,by go_grown⟩
theorem bound_any (b:Bool) (w:World):
  Calls Tryz.prog 186 #[.bool b] w fun e A=>e = .returned (.int .i64 (lim b))/\A=w:=by
 cases b
 all_goals
  go_enter Tryz.func186,Tryz.ntmps186;go_wp2;go_ret;exact ⟨rfl,rfl⟩
theorem i_d (a n:Int) (I:InR a) (A:(a.natAbs:Int)=n) (w:World):
  Calls Tryz.prog 190 #[.int .i64 a] w fun e E=>e = .returned (.int .u64 n)/\E=w:=by
 unfold InR at I;have H:Hid ((a.natAbs:Int)=n):=A;clear A;by_cases h:a < 0
 all_goals
  go_enter Tryz.func190,Tryz.ntmps190;go_wp2;go_ret;refine ⟨ret_int ?_,rfl⟩;have A:=H.out
  try simp only [IntKind.wrap_u64]
  omega
theorem l_d (b:Bool) (a:Int) (M:InW a) (w:World):
  Calls Tryz.prog 189 #[.bool b,wd a] w fun e L=>e = .returned (wd (if b then wr (-a) else a))/\Below w.heap.size w L:=by
 obtain ⟨R,V,E,a1,a2,a3,a4,Ha⟩:=words M;cases b
 ·simp only [Bool.false_eq_true,if_false];rw [E];clear E;go_enter Tryz.func189,Tryz.ntmps189;go_wp2;exact bodyPost_ret (v:=.agg #[.int .i64 R,.int .u64 V]) (by simp [results,Tryz.results189,go_sem]) rfl ⟨rfl,by go_grown⟩
 ·simp only [if_true];obtain ⟨h,l,e,h1,h2,l1,l2,H⟩:=words (j_7 (-a))
  have Z:∀ W:World,Calls Tryz.prog 213 #[.agg #[.int .i64 R,.int .u64 V]] W fun e L=>e = .returned (.agg #[.int .i64 h,.int .u64 l])/\Below W.heap.size W L:=by
   intro W;have:=neg_any a M W;rw [e,E] at this;exact this
  rw [E,e];clear E e;go_enter Tryz.func189,Tryz.ntmps189;go_wp2_with fail
  refine (Z _).mono ?_;rintro e' O ⟨rfl,hb⟩;obtain ⟨A,I⟩:=bcell hb;have hB:Below w.heap.size w O:=Below.trans (by go_grown) (hb.mono (by simp;try omega));have J:=hb.size;simp at J;go_wp2;obtain ⟨f0,f1⟩:=two O (w.heap.size+1) (.int .i64 h) (.int .u64 l) (by rw [A _ _ (by simp)];simp [go_sem];rfl) (by rw [A _ _ (by simp)];simp [go_sem];rfl);refine bodyPost_ret (v:=.agg #[.int .i64 h,.int .u64 l]) (by simp [results,Tryz.results189,go_sem,f0,f1]) rfl ⟨rfl,by go_grown⟩
theorem m_q (a b:Int):a*b=sg (Fx.differ a b) (a.natAbs*b.natAbs):=by
 unfold sg Fx.differ;rw [<- Int.natAbs_mul];have E:0<=a->0<=b->0<=a*b:=Int.mul_nonneg;have L:a < 0->b < 0->0<=a*b:=fun h A=>Int.mul_nonneg_of_nonpos_of_nonpos (by omega) (by omega);have J:a < 0->0<=b->a*b<=0:=fun h A=>Int.mul_nonpos_of_nonpos_of_nonneg (by omega) A;have M:0<=a->b < 0->a*b<=0:=fun h A=>Int.mul_nonpos_of_nonneg_of_nonpos h (by omega);by_cases I:a < 0 <;> by_cases H:b < 0 <;> simp [I,H] <;> omega
theorem m_r (a b:Int) (A:InR a) (hb:InR b):a.natAbs*b.natAbs<=85070591730234615865843651857942052864:=by
 unfold InR at *
 calc a.natAbs*b.natAbs<=9223372036854775808*9223372036854775808:=Nat.mul_le_mul (by omega) (by omega)
  _=_:=by decide
theorem o_W (a b:Int) (R:InR a) (hb:InR b) (w:World):
  Calls Tryz.prog 203 #[.int .i64 a,.int .i64 b] w fun e I=>e = .returned (wd (a*b))/\Below w.heap.size w I:=by
 have hp:=m_r a b R hb;have E:=m_q a b;obtain ⟨m,em⟩:∃ m,a.natAbs*b.natAbs=m:=⟨_,rfl⟩
 rw [em] at hp E;obtain ⟨x,L,J,hx,h1,l1⟩:∃ x L J:Int,x=(m:Int)/\L=x / 18446744073709551616/\J=x % 18446744073709551616:=⟨_,_,_,rfl,rfl,rfl⟩
 have hw:InW x:=by unfold InW;omega
 have e0:Value.agg #[.int .i64 L,.int .u64 J]=wd x:=by rw [h1,l1];rfl
 have O:InW (a*b):=by rw [E];unfold InW sg;split <;> omega
 obtain ⟨h,l,e,g1,g2,g3,g4,H⟩:=words O
 have hm:∀ W:World,Calls Tryz.prog 176 #[.int .u64 (a.natAbs:Int),.int .u64 (b.natAbs:Int)] W fun e I=>e = .returned (.tuple #[.int .u64 L,.int .u64 J])/\I=W:=by
  intro W;have:=Tryz.bits_Mul64 a.natAbs b.natAbs (by unfold InR at R;omega) (by unfold InR at hb;omega) W;rw [em] at this;have q1:((m / 18446744073709551616:Nat):Int)=L:=by omega
  have q2:((m % 18446744073709551616:Nat):Int)=J:=by omega
  rw [q1,q2] at this;exact this
 have hs:∀ W:World,Calls Tryz.prog 189 #[.bool (Fx.differ a b),.agg #[.int .i64 L,.int .u64 J]] W fun e I=>e = .returned (.agg #[.int .i64 h,.int .u64 l])/\Below W.heap.size W I:=by
  intro W;have:=l_d (Fx.differ a b) x hw W
  have e2:(if Fx.differ a b then wr (-x) else x)=a*b:=by
   rw [E];unfold sg
   split
   ·unfold wr;omega
   ·omega
  rw [e2,e,<- e0] at this;exact this
 have b1:0<=L/\L<=4611686018427387904:=by omega
 have b2:0<=J/\J<=18446744073709551615:=by omega
 obtain ⟨p,ep⟩:∃ p:Int,(a.natAbs:Int)=p:=⟨_,rfl⟩
 obtain ⟨q,Z⟩:∃ q:Int,(b.natAbs:Int)=q:=⟨_,rfl⟩
 have ca:∀ W:World,Calls Tryz.prog 190 #[.int .i64 a] W fun e I=>e = .returned (.int .u64 p)/\I=W:=fun W=>i_d a p R ep W;have cb:∀ W:World,Calls Tryz.prog 190 #[.int .i64 b] W fun e I=>e = .returned (.int .u64 q)/\I=W:=fun W=>i_d b q hb Z W;rw [ep,Z] at hm;unfold InR at R hb;have p1:0<=p/\p<=9223372036854775808:=by omega
 have q1:0<=q/\q<=9223372036854775808:=by omega
 rw [e];clear e e0 O hw hx h1 l1 hp E em H ep Z;unfold Fx.differ at hs;go_enter Tryz.func203,Tryz.ntmps203;go_wp2_with fail
 refine (ca _).mono ?_;rintro V M ⟨rfl,rfl⟩;go_wp2_with fail
 refine (cb _).mono ?_;rintro V M ⟨rfl,rfl⟩;go_wp2_with fail
 refine (hm _).mono ?_;rintro V M ⟨rfl,rfl⟩;go_wp2_with fail
 refine (hs _).mono ?_;rintro V M ⟨rfl,hb⟩;obtain ⟨A,aa⟩:=bcell hb;have hB:Below w.heap.size w M:=Below.trans (by go_grown) (hb.mono (by simp;try omega));have ab:=hb.size;simp at ab;go_wp2;obtain ⟨f0,f1⟩:=two M w.heap.size (.int .i64 h) (.int .u64 l) (by rw [A _ _ (by simp)];simp [go_sem];rfl) (by rw [A _ _ (by simp)];simp [go_sem];rfl);refine bodyPost_ret (v:=.agg #[.int .i64 h,.int .u64 l]) (by simp [results,Tryz.results203,go_sem,f0,f1]) rfl ⟨rfl,by go_grown⟩
theorem o_X (x:Int):InR (IntKind.i64.wrap x):=by unfold InR;rw [IntKind.wrap_i64];omega
theorem t_F (A:Int) (H:0<=A/\A<=18446744073709551615) (W:World):Calls Tryz.prog 185 #[.int .i64 (IntKind.i64.wrap A)] W fun e E=>e = .returned (.agg #[.int .i64 (if A < 9223372036854775808 then 0 else -1),.int .u64 A])/\Below W.heap.size W E:=by
 have:=of_any (IntKind.i64.wrap A) (o_X A) W
 have e:wd (IntKind.i64.wrap A) = .agg #[.int .i64 (if A < 9223372036854775808 then 0 else -1),.int .u64 A]:=by
  refine (o_U ?_ ?_).symm
  ·rw [IntKind.wrap_i64];split <;> omega
  ·rw [IntKind.wrap_i64];omega
 rw [e] at this;exact this
theorem j_b (a:Int) (ha:InW a) (w:World):
  Calls Tryz.prog 154 #[wd a] w fun e w'=>e = .returned (.int .i64 (hold a))/\Below w.heap.size w w':=by
 obtain ⟨ah,R,ea,a1,a2,a3,a4,V⟩:=words ha;have L:=t_F R ⟨a3,a4⟩;obtain ⟨A,J⟩:∃ A:Int,(if R < 9223372036854775808 then 0 else -1)=A:=⟨_,rfl⟩
 rw [J] at L;have Ho:Hid ((if R < 9223372036854775808 then 0 else -1)=A):=J;have ob:-1<=A/\A<=0:=by rw [<- J];split <;> omega
 rw [ea];clear ea J;by_cases h:A=ah
 ·subst h;go_enter Tryz.func154,Tryz.ntmps154;go_wp2_with fail
  go_region_with (go_at_call 185;refine (L _).mono ?_;rintro Z M ⟨rfl,hb⟩;obtain ⟨I,E⟩:=bcell hb;have hB:Below w.heap.size w M:=Below.trans (by go_grown) (hb.mono (by simp;try omega));have H:=hb.size;simp at H)
  all_goals
   go_wp2;go_ret;refine ⟨ret_int ?_,by go_grown⟩;have h1:=V.out;have O:=Ho.out
   try simp only [IntKind.wrap_i64,wrap64]
   unfold hold
   split at O <;> split <;> (try split) <;> omega
 ·have aa:(A==ah)=false:=by simpa using h
  go_enter Tryz.func154,Tryz.ntmps154;go_wp2_with fail
  go_region_with (go_at_call 185;refine (L _).mono ?_;rintro Z M ⟨rfl,hb⟩;obtain ⟨I,E⟩:=bcell hb;have hB:Below w.heap.size w M:=Below.trans (by go_grown) (hb.mono (by simp;try omega));have H:=hb.size;simp at H)
  all_goals
   go_wp2_with (go_at_call 186;refine (bound_any _ _).mono ?_;rintro Z w2 ⟨rfl,rfl⟩)
   go_ret;refine ⟨ret_int ?_,by go_grown⟩;have h1:=V.out;have O:=Ho.out;unfold InW at ha;unfold lim hold;simp only [decide_eq_true_eq]
   split at O <;> split <;> split <;> (try split) <;> omega
end Go.Proofs.YtkfpainpomobfaaGreatDoor.Wd
