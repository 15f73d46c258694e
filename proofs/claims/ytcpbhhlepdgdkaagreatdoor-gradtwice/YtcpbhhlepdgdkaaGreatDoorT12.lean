/- Bent lines and their slopes, as numbers: -/
import Derived.Laws.EntriesVeiled
import Derived.Test.YtcpbhhlepdgdkaaGreatDoorT09
import Derived.Test.YtcpbhhlepdgdkaaGreatDoorT11
set_option linter.unusedVariables false
set_option linter.unusedSimpArgs false
set_option maxHeartbeats 16000000
set_option maxRecDepth 16000
namespace Go.Proofs.YtcpbhhlepdgdkaaGreatDoor.Fx
open Go.RowKit
/-- A number by 8, by 2: rounded to the even one half way. -/
def by8 (x:Int):Int:=sg (decide (x < 0)) (rq x.natAbs 8)
def by2 (x:Int):Int:=sg (decide (x < 0)) (rq x.natAbs 2)
theorem j_1 (n d k:Nat) (D:0 < k) (I:0 < d):rq (n*k) (d*k)=rq n d:=by
 unfold rq;rw [Nat.mul_div_mul_right _ _ D,Nat.mul_mod_mul_right]
 have E:d*k < 2*(n % d*k)↔d < 2*(n % d):=by
  rw [<- Nat.mul_assoc];exact Nat.mul_lt_mul_right D
 have H:2*(n % d*k)=d*k↔2*(n % d)=d:=by
  rw [<- Nat.mul_assoc];exact Nat.mul_left_inj (by omega)
 simp only [E,H]
theorem q_x (n:Nat):rq n 8<=n:=by
 unfold rq
 split <;> omega
theorem q_y (n:Nat):rq n 2<=n:=by
 unfold rq
 split <;> omega
theorem m_t {x:Int} (h:InR x):InR (by8 x):=by
 unfold InR at h ⊢;have:=q_x x.natAbs;unfold by8 sg
 split
 ·rename_i D
  have:=of_decide_eq_true D;omega
 ·rename_i D
  have:¬ x < 0:=fun c=>D (decide_eq_true c);omega
theorem m_u {x:Int} (h:InR x):InR (by2 x):=by
 unfold InR at h ⊢;have:=q_y x.natAbs;unfold by2 sg
 split
 ·rename_i D
  have:=of_decide_eq_true D;omega
 ·rename_i D
  have:¬ x < 0:=fun c=>D (decide_eq_true c);omega
theorem t_R {x:Int} (h:InR x):n_z x 34359738368=by8 x:=by
 have D:=m_t h;unfold n_z;rw [if_neg (by omega)]
 have E:differ x 34359738368=decide (x < 0):=by
  unfold differ;rw [show decide ((34359738368:Int) < 0)=false from rfl];cases decide (x < 0) <;> rfl
 have H:rq (x.natAbs*4294967296) (34359738368:Int).natAbs=rq x.natAbs 8:=j_1 x.natAbs 8 4294967296 (by omega) (by omega);rw [E,H];exact hold_in D.1 D.2
theorem t_S {x:Int} (h:InR x):n_z x 8589934592=by2 x:=by
 have D:=m_u h;unfold n_z;rw [if_neg (by omega)]
 have E:differ x 8589934592=decide (x < 0):=by
  unfold differ;rw [show decide ((8589934592:Int) < 0)=false from rfl];cases decide (x < 0) <;> rfl
 have H:rq (x.natAbs*4294967296) (8589934592:Int).natAbs=rq x.natAbs 2:=j_1 x.natAbs 2 4294967296 (by omega) (by omega);rw [E,H];exact hold_in D.1 D.2
/-- The lines, by kind; their slopes. -/
def bendI (k x:Int):Int:=
 if k=1 then (if x < 0 then 0 else x)
 else if k=2 then (if 0 < x then x else by8 x)
 else if k=3 then (if 4294967296 < x then 4294967296 else if x < -4294967296 then -4294967296 else x)
 else if k=4 then (if x < 0 then hold (-x) else x)
 else (if hold (by2 x+2147483648) < 0 then 0 else if 4294967296 < hold (by2 x+2147483648) then 4294967296 else hold (by2 x+2147483648))
def slopeI (k x:Int):Int:=
 if k=1 then (if 0 < x then 4294967296 else 0)
 else if k=2 then (if 0 < x then 4294967296 else 536870912)
 else if k=3 then (if -4294967296 < x/\x < 4294967296 then 4294967296 else 0)
 else if k=4 then (if 0 < x then 4294967296 else if x < 0 then -4294967296 else 0)
 else (if -4294967296 < x/\x < 4294967296 then 2147483648 else 0)
theorem r_U (x:Int):bendI 1 x=if x < 0 then 0 else x:=if_pos rfl
theorem r_V (x:Int):bendI 2 x=if 0 < x then x else by8 x:=(if_neg (by decide)).trans (if_pos rfl)
theorem r_W (x:Int):bendI 3 x=if 4294967296 < x then 4294967296 else if x < -4294967296 then -4294967296 else x:=(if_neg (by decide)).trans ((if_neg (by decide)).trans (if_pos rfl))
theorem r_X (x:Int):bendI 4 x=if x < 0 then hold (-x) else x:=(if_neg (by decide)).trans ((if_neg (by decide)).trans ((if_neg (by decide)).trans (if_pos rfl)))
theorem q_z (x:Int):slopeI 1 x=if 0 < x then 4294967296 else 0:=if_pos rfl
theorem q_A (x:Int):slopeI 2 x=if 0 < x then 4294967296 else 536870912:=(if_neg (by decide)).trans (if_pos rfl)
theorem q_B (x:Int):slopeI 3 x=if -4294967296 < x/\x < 4294967296 then 4294967296 else 0:=(if_neg (by decide)).trans ((if_neg (by decide)).trans (if_pos rfl))
theorem q_C (x:Int):slopeI 4 x=if 0 < x then 4294967296 else if x < 0 then -4294967296 else 0:=(if_neg (by decide)).trans ((if_neg (by decide)).trans ((if_neg (by decide)).trans (if_pos rfl)))
theorem r_Y (x:Int):bendI 5 x=if hold (by2 x+2147483648) < 0 then 0 else if 4294967296 < hold (by2 x+2147483648) then 4294967296 else hold (by2 x+2147483648):=(if_neg (by decide)).trans ((if_neg (by decide)).trans ((if_neg (by decide)).trans (if_neg (by decide))))
theorem q_D (x:Int):slopeI 5 x=if -4294967296 < x/\x < 4294967296 then 2147483648 else 0:=(if_neg (by decide)).trans ((if_neg (by decide)).trans ((if_neg (by decide)).trans (if_neg (by decide))))
theorem m_v (k x:Int):InR (slopeI k x):=by
 unfold slopeI InR
 repeat' split
 all_goals omega
theorem o_w {k x:Int} (h:InR x):InR (bendI k x):=by
 have D:=m_t h;have E:=hold_rng (-x);unfold InR at *;unfold bendI
 repeat' split
 all_goals omega
theorem bst {w D E:World} (h:Below w.heap.size w D) (H:Below D.heap.size D E):Below w.heap.size w E:=h.trans (H.mono h.size)
theorem k_N (W:World) (m:Nat):Below W.heap.size W (W.drewN m):=⟨rfl,rfl,rfl,Nat.le_refl _,fun _ _=>rfl⟩
theorem neg_any (a:Int) (E:InR a) (w:World):
  Calls Tryz.prog 176 #[.int .i64 a] w fun e D=>e = .returned (.int .i64 (hold (-a)))/\D=w:=by
 go_enter Tryz.func176,Tryz.ntmps176;go_wp2_with (go_at_call 137;refine (sub_any 0 a (by unfold InR;omega) E _).mono ?_;rintro e D ⟨rfl,rfl⟩)
 go_ret;exact ⟨by simp,rfl⟩
theorem m_w {P:Program} {x y z:Int} (h:(if x < y then y else x)=z) (D:Array TypeId) (t:TypeId) (w:World):(Builtin.max_ D t #[.int .i64 x,.int .i64 y]).run P w = .ok (.int .i64 z) w:=by
 rw [run_max_int2,<- h]
theorem p_q {P:Program} {x y z:Int} (h:(if y < x then y else x)=z) (D:Array TypeId) (t:TypeId) (w:World):(Builtin.min_ D t #[.int .i64 x,.int .i64 y]).run P w = .ok (.int .i64 z) w:=by
 rw [run_min_int2,<- h]
theorem r_Z (x:Int) (J:InR x) (w:World):
  Calls Tryz.prog 155 #[.int .i64 x] w fun e H=>e = .returned (.int .i64 (bendI 1 x))/\∃ n,H=w.drewN n:=by
 obtain ⟨y,D⟩:∃ y,(if x < 0 then 0 else x)=y:=⟨_,rfl⟩
 have I:=m_w (P:=Tryz.prog) D;have E:Hid (bendI 1 x=y):=(r_U x).trans D;clear D;go_enter Tryz.func155,Tryz.ntmps155;go_wp2;go_ret;exact ⟨ret_int E.out.symm,0,rfl⟩
theorem r_0 (x:Int) (E:InR x) (w:World):
  Calls Tryz.prog 157 #[.int .i64 x] w fun e D=>e = .returned (.int .i64 (bendI 2 x))/\∃ n,D=w.drewN n:=by
 rw [r_V];by_cases h:0 < x
 ·rw [if_pos h];go_enter Tryz.func157,Tryz.ntmps157;go_wp2;go_ret;exact ⟨rfl,0,rfl⟩
 ·rw [if_neg h,<- t_R E];have L:x<=0:=by omega
  have I:∀ W,Calls Tryz.prog 174 #[.int .i64 8] W fun e D=>e = .returned (.int .i64 34359738368)/\D=W:=fun W=>of_any 8 (by unfold InR;omega) W;have H:Hid (InR x):=E;clear E h;go_enter Tryz.func157,Tryz.ntmps157;go_wp2_with fail
  refine (I _).mono ?_;rintro e J ⟨rfl,rfl⟩;go_wp2_with fail
  refine (i_G x 34359738368 H.out (by unfold InR;omega) _).mono ?_;rintro e M ⟨rfl,m,rfl⟩;go_wp2;go_ret;exact ⟨rfl,m,rfl⟩
theorem r_1 (x:Int) (M:InR x) (w:World):
  Calls Tryz.prog 159 #[.int .i64 x] w fun e I=>e = .returned (.int .i64 (bendI 3 x))/\∃ n,I=w.drewN n:=by
 obtain ⟨y,H⟩:∃ y,(if x < -4294967296 then -4294967296 else x)=y:=⟨_,rfl⟩
 obtain ⟨z,D⟩:∃ z,(if 4294967296 < y then 4294967296 else y)=z:=⟨_,rfl⟩
 have J:=m_w (P:=Tryz.prog) H;have L:=p_q (P:=Tryz.prog) D
 have E:Hid (bendI 3 x=z):=by
  show _=_;rw [r_W,<- D,<- H]
  repeat' split
  all_goals omega
 clear H D;go_enter Tryz.func159,Tryz.ntmps159;go_wp2;go_ret;exact ⟨ret_int E.out.symm,0,rfl⟩
theorem r_2 (x:Int) (E:InR x) (w:World):
  Calls Tryz.prog 161 #[.int .i64 x] w fun e D=>e = .returned (.int .i64 (bendI 4 x))/\∃ n,D=w.drewN n:=by
 rw [r_X];by_cases h:x < 0
 ·rw [if_pos h];go_enter Tryz.func161,Tryz.ntmps161;go_wp2_with (go_at_call 176;refine (neg_any x E _).mono ?_;rintro e D ⟨rfl,rfl⟩)
  go_ret;exact ⟨rfl,0,rfl⟩
 ·rw [if_neg h];have H:0<=x:=by omega
  go_enter Tryz.func161,Tryz.ntmps161;go_wp2;go_ret;exact ⟨rfl,0,rfl⟩
theorem r_3 (x:Int) (I:InR x) (w:World):
  Calls Tryz.prog 163 #[.int .i64 x] w fun e D=>e = .returned (.int .i64 (bendI 5 x))/\∃ n,D=w.drewN n:=by
 obtain ⟨a,H⟩:∃ a,by2 x=a:=⟨_,rfl⟩
 have R:InR a:=by rw [<- H];exact m_u I
 obtain ⟨b,O⟩:∃ b,hold (a+2147483648)=b:=⟨_,rfl⟩
 obtain ⟨y,L⟩:∃ y,(if b < 0 then 0 else b)=y:=⟨_,rfl⟩
 obtain ⟨z,M⟩:∃ z,(if 4294967296 < y then 4294967296 else y)=z:=⟨_,rfl⟩
 have k1:=m_w (P:=Tryz.prog) L;have k2:=p_q (P:=Tryz.prog) M;have V:∀ W,Calls Tryz.prog 174 #[.int .i64 2] W fun e D=>e = .returned (.int .i64 8589934592)/\D=W:=fun W=>of_any 2 (by unfold InR;omega) W;have J:=i_G x 8589934592 I (by unfold InR;omega) w;rw [t_S I,H] at J;have U:∀ W,Calls Tryz.prog 107 #[.int .i64 a,.int .i64 2147483648] W fun e D=>e = .returned (.int .i64 b)/\D=W:=fun W=>by rw [<- O];exact add_any a 2147483648 R (by unfold InR;omega) W
 have E:Hid (bendI 5 x=z):=by
  show _=_;rw [r_Y,H,O,<- M,<- L]
  repeat' split
  all_goals omega
 clear L M H O I R;go_enter Tryz.func163,Tryz.ntmps163;go_wp2_with fail
 refine (V _).mono ?_;rintro e w1 ⟨rfl,rfl⟩;go_wp2_with fail
 refine J.mono ?_;rintro e w2 ⟨rfl,m,rfl⟩;go_wp2_with fail
 refine (U _).mono ?_;rintro e w3 ⟨rfl,rfl⟩;clear V J U;go_wp2;go_ret;exact ⟨ret_int E.out.symm,m,rfl⟩
theorem d_C (x:Int) (b:Bool) (hb:decide (-4294967296 < x/\x < 4294967296)=b) (w:World):
  Calls Tryz.prog 175 #[.int .i64 x] w fun e J=>e = .returned (.bool b)/\J=w:=by
 by_cases E:-4294967296 < x
 ·by_cases D:x < 4294967296
  ·rw [decide_eq_true ⟨E,D⟩] at hb;subst hb;go_enter Tryz.func175,Tryz.ntmps175;go_wp2;go_ret;exact ⟨rfl,rfl⟩
  ·rw [decide_eq_false fun h=>D h.2] at hb;subst hb;have I:4294967296<=x:=by omega
   go_enter Tryz.func175,Tryz.ntmps175;go_wp2;go_ret;exact ⟨rfl,rfl⟩
 ·rw [decide_eq_false fun h=>E h.1] at hb;subst hb;have H:x<=-4294967296:=by omega
  go_enter Tryz.func175,Tryz.ntmps175;go_wp2;go_ret;exact ⟨rfl,rfl⟩
theorem r_4 (x:Int) (w:World):
  Calls Tryz.prog 156 #[.int .i64 x] w fun e D=>e = .returned (.int .i64 (slopeI 1 x))/\D=w:=by
 rw [q_z];by_cases h:0 < x
 ·rw [if_pos h];go_enter Tryz.func156,Tryz.ntmps156;go_wp2;go_ret;exact ⟨rfl,rfl⟩
 ·rw [if_neg h];have E:x<=0:=by omega
  go_enter Tryz.func156,Tryz.ntmps156;go_wp2;go_ret;exact ⟨rfl,rfl⟩
theorem r_5 (x:Int) (w:World):
  Calls Tryz.prog 158 #[.int .i64 x] w fun e D=>e = .returned (.int .i64 (slopeI 2 x))/\D=w:=by
 rw [q_A];by_cases h:0 < x
 ·rw [if_pos h];go_enter Tryz.func158,Tryz.ntmps158;go_wp2;go_ret;exact ⟨rfl,rfl⟩
 ·rw [if_neg h];have E:x<=0:=by omega
  go_enter Tryz.func158,Tryz.ntmps158;go_wp2;go_ret;exact ⟨rfl,rfl⟩
theorem r_6 (x:Int) (w:World):
  Calls Tryz.prog 160 #[.int .i64 x] w fun e D=>e = .returned (.int .i64 (slopeI 3 x))/\D=w:=by
 rw [q_B];by_cases h:-4294967296 < x/\x < 4294967296
 ·rw [if_pos h];have c:=d_C x true (decide_eq_true h);clear h;go_enter Tryz.func160,Tryz.ntmps160;go_wp2_with (go_at_call 175;refine (c _).mono ?_;rintro e D ⟨rfl,rfl⟩)
  go_ret;exact ⟨rfl,rfl⟩
 ·rw [if_neg h];have c:=d_C x false (decide_eq_false h);clear h;go_enter Tryz.func160,Tryz.ntmps160;go_wp2_with (go_at_call 175;refine (c _).mono ?_;rintro e D ⟨rfl,rfl⟩)
  go_ret;exact ⟨rfl,rfl⟩
theorem r_7 (x:Int) (w:World):
  Calls Tryz.prog 162 #[.int .i64 x] w fun e H=>e = .returned (.int .i64 (slopeI 4 x))/\H=w:=by
 rw [q_C];by_cases h:0 < x
 ·rw [if_pos h];go_enter Tryz.func162,Tryz.ntmps162;go_wp2;go_ret;exact ⟨rfl,rfl⟩
 ·rw [if_neg h];have I:x<=0:=by omega
  by_cases D:x < 0
  ·rw [if_pos D];go_enter Tryz.func162,Tryz.ntmps162;go_wp2;go_ret;exact ⟨rfl,rfl⟩
  ·rw [if_neg D];have E:0<=x:=by omega
   go_enter Tryz.func162,Tryz.ntmps162;go_wp2;go_ret;exact ⟨rfl,rfl⟩
theorem r_8 (x:Int) (w:World):
  Calls Tryz.prog 164 #[.int .i64 x] w fun e D=>e = .returned (.int .i64 (slopeI 5 x))/\D=w:=by
 rw [q_D];by_cases h:-4294967296 < x/\x < 4294967296
 ·rw [if_pos h];have c:=d_C x true (decide_eq_true h);clear h;go_enter Tryz.func164,Tryz.ntmps164;go_wp2_with (go_at_call 175;refine (c _).mono ?_;rintro e D ⟨rfl,rfl⟩)
  go_ret;exact ⟨rfl,rfl⟩
 ·rw [if_neg h];have c:=d_C x false (decide_eq_false h);clear h;go_enter Tryz.func164,Tryz.ntmps164;go_wp2_with (go_at_call 175;refine (c _).mono ?_;rintro e D ⟨rfl,rfl⟩)
  go_ret;exact ⟨rfl,rfl⟩
theorem t_b (w:World):
  Calls Tryz.prog 125 #[.int .i64 1] w fun e D=>e = .returned (.tuple #[.agg #[.func (.func 155) #[] #[],.func (.func 156) #[] #[]],.bool true])/\Below w.heap.size w D:=by
 go_enter Tryz.func125,Tryz.ntmps125;go_wp2;exact bodyPost_ret (v:=.tuple #[.agg #[.func (.func 155) #[] #[],.func (.func 156) #[] #[]],.bool true]) (by simp [results,Tryz.results125,go_sem]) rfl ⟨rfl,by go_grown⟩
theorem t_c (w:World):
  Calls Tryz.prog 125 #[.int .i64 2] w fun e D=>e = .returned (.tuple #[.agg #[.func (.func 157) #[] #[],.func (.func 158) #[] #[]],.bool true])/\Below w.heap.size w D:=by
 go_enter Tryz.func125,Tryz.ntmps125;go_wp2;exact bodyPost_ret (v:=.tuple #[.agg #[.func (.func 157) #[] #[],.func (.func 158) #[] #[]],.bool true]) (by simp [results,Tryz.results125,go_sem]) rfl ⟨rfl,by go_grown⟩
theorem t_d (w:World):
  Calls Tryz.prog 125 #[.int .i64 3] w fun e D=>e = .returned (.tuple #[.agg #[.func (.func 159) #[] #[],.func (.func 160) #[] #[]],.bool true])/\Below w.heap.size w D:=by
 go_enter Tryz.func125,Tryz.ntmps125;go_wp2;exact bodyPost_ret (v:=.tuple #[.agg #[.func (.func 159) #[] #[],.func (.func 160) #[] #[]],.bool true]) (by simp [results,Tryz.results125,go_sem]) rfl ⟨rfl,by go_grown⟩
theorem t_e (w:World):
  Calls Tryz.prog 125 #[.int .i64 4] w fun e D=>e = .returned (.tuple #[.agg #[.func (.func 161) #[] #[],.func (.func 162) #[] #[]],.bool true])/\Below w.heap.size w D:=by
 go_enter Tryz.func125,Tryz.ntmps125;go_wp2;exact bodyPost_ret (v:=.tuple #[.agg #[.func (.func 161) #[] #[],.func (.func 162) #[] #[]],.bool true]) (by simp [results,Tryz.results125,go_sem]) rfl ⟨rfl,by go_grown⟩
theorem t_f (w:World):
  Calls Tryz.prog 125 #[.int .i64 5] w fun e D=>e = .returned (.tuple #[.agg #[.func (.func 163) #[] #[],.func (.func 164) #[] #[]],.bool true])/\Below w.heap.size w D:=by
 go_enter Tryz.func125,Tryz.ntmps125;go_wp2;exact bodyPost_ret (v:=.tuple #[.agg #[.func (.func 163) #[] #[],.func (.func 164) #[] #[]],.bool true]) (by simp [results,Tryz.results125,go_sem]) rfl ⟨rfl,by go_grown⟩
theorem q_E (k:Int) (E:k < 1∨5 < k) (w:World):
  Calls Tryz.prog 125 #[.int .i64 k] w fun e D=>e = .returned (.tuple #[.agg #[.nilFunc,.nilFunc],.bool false])/\Below w.heap.size w D:=by
 have M:(k==1)=false:=by simp;omega
 have L:(k==2)=false:=by simp;omega
 have I:(k==3)=false:=by simp;omega
 have H:(k==4)=false:=by simp;omega
 have J:(k==5)=false:=by simp;omega
 clear E;go_enter Tryz.func125,Tryz.ntmps125;go_wp2;exact bodyPost_ret (v:=.tuple #[.agg #[.nilFunc,.nilFunc],.bool false]) (by simp [results,Tryz.results125,go_sem]) rfl ⟨rfl,by go_grown⟩
theorem j_2 (k:Int) (I:1<=k/\k<=5):∃ E H:FuncId,(∀ args W,(callFunc E args).run Tryz.prog W = .ok (.enter E args) W)/\(∀ args W,(callFunc H args).run Tryz.prog W = .ok (.enter H args) W)
  /\ (∀ x,InR x->∀ W,Calls Tryz.prog E #[.int .i64 x] W fun e D=>e = .returned (.int .i64 (bendI k x))/\∃ n,D=W.drewN n)/\(∀ x W,Calls Tryz.prog H #[.int .i64 x] W fun e D=>e = .returned (.int .i64 (slopeI k x))/\D=W)
  /\ ∀ w,Calls Tryz.prog 125 #[.int .i64 k] w fun e D=>e = .returned (.tuple #[.agg #[.func (.func E) #[] #[],.func (.func H) #[] #[]],.bool true])/\Below w.heap.size w D:=by
 have:k=1∨k=2∨k=3∨k=4∨k=5:=by omega
 rcases this with rfl|rfl|rfl|rfl|rfl
 ·exact ⟨_,_,fun args W=>by simp [go_sem],fun args W=>by simp [go_sem],r_Z,r_4,t_b⟩
 ·exact ⟨_,_,fun args W=>by simp [go_sem],fun args W=>by simp [go_sem],r_0,r_5,t_c⟩
 ·exact ⟨_,_,fun args W=>by simp [go_sem],fun args W=>by simp [go_sem],r_1,r_6,t_d⟩
 ·exact ⟨_,_,fun args W=>by simp [go_sem],fun args W=>by simp [go_sem],r_2,r_7,t_e⟩
 ·exact ⟨_,_,fun args W=>by simp [go_sem],fun args W=>by simp [go_sem],r_3,r_8,t_f⟩
end Go.Proofs.YtcpbhhlepdgdkaaGreatDoor.Fx
namespace Go.Proofs.YtcpbhhlepdgdkaaGreatDoor.Wd
open Go.RowKit Fx
def g_6 (k:Int) (d x:List Int):Int:=if (1<=k/\k<=5)/\isP d x then 0 else 1
def k_O (k:Int) (d x:List Int):List Int:=if (1<=k/\k<=5)/\isP d x then d else []
def m_x (k:Int) (d x:List Int):List Int:=if (1<=k/\k<=5)/\isP d x then x.map fun y=>Fx.bendI k y else []
theorem r_9 (f:Int->Int) (x:List Int) (k:Nat) (h:k < x.length):(x.map f).getD k 0=f (x.getD k 0):=by
 rw [List.getD_eq_getElem?_getD,List.getElem?_map,List.getElem?_eq_getElem h,a_r x k 0 h];rfl
theorem o_x (k:Int) (p p2:Option Addr) (n c E c2:Nat) (d x:List Int) (hd:RI d) (hx:RI x) (w:World) (h1:Nums .i64 w (.slice p n c) d) (h2:Nums .i64 w (.slice p2 E c2) x):
  Calls Tryz.prog 115 #[.int .i64 k,.agg #[.slice p n c,.slice p2 E c2]] w fun e w'=>∃ v',e = .returned (.tuple #[v',.int .i64 (g_6 k d x)])/\TRes w' w.heap.size v' (k_O k d x) (m_x k d x)/\Below w.heap.size w w':=by
 have cA:=fun W (hW:Below w.heap.size w W)=>a_B _ _ d x hd W (h1.up hW) (h2.up hW);unfold g_6 k_O m_x;by_cases hk:1<=k/\k<=5
 ·obtain ⟨K1,K2,e1,e2,f1,f2,cl⟩:=j_2 k hk;by_cases hp:isP d x
  ·rw [decide_eq_true hp] at cA;rw [if_pos ⟨hk,hp⟩,if_pos ⟨hk,hp⟩,if_pos ⟨hk,hp⟩];obtain ⟨V,eV⟩:∃ V,(x.map fun y=>Fx.bendI k y)=V:=⟨_,rfl⟩
   rw [eV];have HN:Hid (Nums .i64 w (.slice p n c) d/\Nums .i64 w (.slice p2 E c2) x):=⟨h1,h2⟩
   obtain ⟨_,_,_,e4,HX⟩:=h2.lst;cases e4;have aq:x.length<=4096:=by rw [hp.2];exact hp.1.2.2
   rw [HX.out.1] at aq;have ay:(E:Int)<=4096:=by omega
   have HV:Hid ((x.map fun y=>Fx.bendI k y)=V/\V.length=E/\isP d x/\RI x/\x.length=E):=⟨eV,by rw [<- eV,List.length_map];exact HX.out.1,hp,hx,HX.out.1⟩
   have aB:Hid (∀ x,InR x->∀ W,Calls Tryz.prog K1 #[.int .i64 x] W fun e w'=>e = .returned (.int .i64 (bendI k x))/\∃ n,w'=W.drewN n):=f1;clear eV h1 h2 hd hx hp hk f1 f2 e2;go_enter Tryz.func115,Tryz.ntmps115;go_wp2_with fail
   generalize D:World.alloc _ _=W0;have U:=b_1 (w:=w) D (by go_grown);have XA:Hid (Cel W0 w.heap.size (.slice p n c) (.slice p2 E c2)):=a_F D (by simp [go_sem]);have XR:Hid (Cel W0 (w.heap.size+1) (.slice none 0 0) (.slice none 0 0)):=a_F D (by simp [go_sem]);clear D;refine (cl W0).mono ?_;rintro e w1 ⟨rfl,J⟩;have H:=a_N (a_c U.out J) J;clear J cl;obtain ⟨a0,a1,_,_⟩:=XA.out.up H.out.2;have z0:=a_a a0;go_wp2_with fail
   generalize R:World.alloc _ _=W2;have B2:Below w1.heap.size w1 W2:=by rw [<- R];exact a_b w1 _
   have XL:Hid (Cel W2 w1.heap.size (.func (.func K1) #[] #[]) (.func (.func K2) #[] #[])):=by show Cel _ _ _ _;unfold Cel;rw [<- R];simp [go_sem]
   have O:=a_N (a_c H.out.1 B2) (a_c H.out.2 B2);have HL:Hid (W0.heap.size<=w1.heap.size):=H.out.2.size;obtain ⟨bl,ah⟩:∃ bl,w1.heap.size=bl:=⟨_,rfl⟩
   rw [ah] at XL HL ⊢;clear R B2;refine (cA W2 O.out.1).mono ?_;rintro e w3 ⟨rfl,L⟩;have I:Hid (Below w.heap.size w w3/\Below W0.heap.size W0 w3/\Below W2.heap.size W2 w3):=⟨a_c O.out.1 L,a_c O.out.2 L,L⟩
   clear L cA a0 a1 z0;obtain ⟨a0,a1,_,_⟩:=XA.out.up I.out.2.1;go_wp2_with (at_make;refine a_y k_C (by decide) _ rfl (.tmp 26) (.tmp 26) rfl .i64 .i64 E E E rfl rfl rfl rfl (by omega) w.heap.size w I.out.1.size I.out.1 ?_;intro w4 aj B4 aA;clear aA;have av:=(XA.out.up (a_c I.out.2.1 B4));obtain ⟨a2,a3,_,_⟩:=av)
   obtain ⟨g,hg⟩:∃ g,w3.heap.size=g:=⟨_,rfl⟩
   have ac:Hid (Below w.heap.size w w4/\Below W0.heap.size W0 w4/\Below W2.heap.size W2 w4):=⟨a_c I.out.1 B4,a_c I.out.2.1 B4,a_c I.out.2.2 B4⟩
   rw [hg] at aj ⊢;have hz:=a_a XR.out.1;have Hg:Hid (W0.heap.size<=g/\w.heap.size+1 < W0.heap.size/\bl < g):=⟨by rw [<- hg];exact I.out.2.1.size,hz,by rw [<- hg];exact Nat.lt_of_lt_of_le (a_a XL.out.1) I.out.2.2.size⟩
   have az:Hid (OwnK .i64 48 w4 g (.slice (some ⟨g,0,none⟩) E E) (b_I V 0)):=by
    show OwnK _ _ _ _ _ _;rw [a_1,HV.out.2.1];exact aj.out
   clear a0 a1 a2 a3 aj B4 hg hz
   go_loopg [31] E (fun gg i wr=>∃ (k:Nat),k<=E/\gg=E - k/\i = .int .i64 (k:Int)/\Hid (OwnK .i64 48 wr g (.slice (some ⟨g,0,none⟩) E E) (b_I V k))/\Hid (Below w.heap.size w wr/\Stay g w4 wr))
   case atStart=>exact ⟨0,by omega,by omega,by first|rfl|simp,az,ac.out.1,Stay.refl _ _⟩
   case round=>
    obtain ⟨j,hj,hg,rfl,au,M⟩:=hrel;obtain ⟨R1,ax⟩:∃ R1:World,R1=wr:=⟨_,rfl⟩
    subst ax;by_cases aa:j < E
    ·have aE:(j:Int) < (E:Int):=by omega
     obtain ⟨q,o,rfl,am⟩:=HX.out.2 j aa;have ar:=a_d am M.out.1;have rx:=HV.out.2.2.2.1.at j (by rw [HV.out.2.2.2.2];exact aa);obtain ⟨X,eX⟩:∃ X,x.getD j 0=X:=⟨_,rfl⟩
     rw [eX] at ar rx;obtain ⟨Z,eZ⟩:∃ Z,Fx.bendI k X=Z:=⟨_,rfl⟩
     have HZ:Hid (V.getD j 0=Z):=by
      show _=_;rw [<- HV.out.1,r_9 _ _ _ (by rw [HV.out.2.2.2.2];exact aa),eX,eZ]
     have cz:∀ W,Calls Tryz.prog K1 #[.int .i64 X] W fun e w'=>e = .returned (.int .i64 Z)/\∃ n,w'=W.drewN n:=fun W=>by rw [<- eZ];exact aB.out X rx W
     have ak:bl≠g:=by have:=Hg.out;omega
     obtain ⟨l0,l1,_,_⟩:=(XL.out.up ac.out.2.2).stay M.out.2 ak;have aC:w.heap.size<=g:=by have:=Hg.out;have:=U.out.size;omega
     clear eX eZ am ak;go_wp2_with fail
     refine (cz _).mono ?_;rintro e w5 ⟨rfl,m,rfl⟩;have af:Hid (OwnK .i64 48 (R1.drewN m) g (.slice (some ⟨g,0,none⟩) E E) (b_I V j)):=au.out.up (k_N _ _);have ag:Hid (Below w.heap.size w (R1.drewN m)/\Stay g w4 (R1.drewN m)):=⟨a_c M.out.1 (k_N _ _),M.out.2.up (k_N _ _)⟩
     obtain ⟨R2,ao⟩:∃ R2:World,R1.drewN m=R2:=⟨_,rfl⟩
     rw [ao] at af ag ⊢;obtain ⟨aD,aG⟩:=af.out.cell (by rw [a_z];exact HV.out.2.1) j aa
     have H5:Hid (OwnK .i64 48 (R2.setCell ⟨g,j,none⟩ (.int .i64 Z)) g (.slice (some ⟨g,0,none⟩) E E) (b_I V (j+1))):=by
      have:=af.out.store (by rw [a_z];exact HV.out.2.1) j Z;rw [<- HZ.out,b_r V j (by rw [HV.out.2.1];exact aa)] at this;rw [<- HZ.out];exact this
     have H6:Hid (Below w.heap.size w (R2.setCell ⟨g,j,none⟩ (.int .i64 Z))/\Stay g w4 (R2.setCell ⟨g,j,none⟩ (.int .i64 Z))):=⟨ag.out.1.setCell (p:=⟨g,j,none⟩) aC _,ag.out.2.set _ _⟩
     clear cz l0 l1 ar ao;go_wp2;go_roundg (E - (j+1))
     case measure=>omega
     case rel=>exact ⟨j+1,by omega,rfl,by first|rfl|simp,H5,H6⟩
    ·obtain rfl:j=E:=by omega
     have ae:w.heap.size≠g:=by have:=Hg.out;omega
     have ad:w.heap.size+1≠g:=by have:=Hg.out;omega
     obtain ⟨a0,a1,_,_⟩:=(XA.out.up ac.out.2.1).stay M.out.2 ae;have an:=(XR.out.up ac.out.2.1).stay M.out.2 ad;have ab:=au.out;rw [<- HV.out.2.1,b_h,HV.out.2.1] at ab;have ap:Hid (OwnK .i64 48 R1 g (.slice (some ⟨g,0,none⟩) j j) V):=ab;have cc:=b_j _ d (by have:=HV.out.2.2.1.1.1;rw [a_Q] at this;omega) R1 (HN.out.1.up M.out.1);have aw:Hid (Cel R1 (w.heap.size+1) (.slice none 0 0) (.slice none 0 0)):=an;clear ab an ae ad;go_wp2_with fail
     refine cc.mono ?_;rintro e w6 ⟨v6,rfl,h6,ai⟩;obtain ⟨p6,n6,c6,rfl,_⟩:=h6.nums.lst
     have HF:Hid (TRes (set2 w6 (w.heap.size+1) (.slice p6 n6 c6) (.slice (some ⟨g,0,none⟩) j j)) w.heap.size (.agg #[.slice p6 n6 c6,.slice (some ⟨g,0,none⟩) j j]) d V/\Below w.heap.size w (set2 w6 (w.heap.size+1) (.slice p6 n6 c6) (.slice (some ⟨g,0,none⟩) j j))):=by
      have hs:g<=R1.heap.size:=Nat.le_of_lt ap.out.size;exact ⟨(TRes.set (h6.low (Nat.le_trans Hg.out.1 hs)) ((ap.out.up ai).low Hg.out.1) Hg.out.2.1).low U.out.size,a_j (a_c M.out.1 ai) _ (by omega) _ _⟩
     clear cc h6 a0 a1;have xr:=(aw.out.up ai)
     have cf:=xr.set (.slice p6 n6 c6) (.slice (some ⟨g,0,none⟩) j j);obtain ⟨r0,r1,r2,r3⟩:=xr;obtain ⟨y0,y1,_,_⟩:=cf;go_wp2;exact bodyPost_ret (v:=.tuple #[.agg #[.slice p6 n6 c6,.slice (some ⟨g,0,none⟩) j j],.int .i64 0]) (by simp [results,Tryz.results115,go_sem,y0,y1]) rfl ⟨_,rfl,HF.out⟩
  ·rw [decide_eq_false hp] at cA;rw [if_neg fun h=>hp h.2,if_neg fun h=>hp h.2,if_neg fun h=>hp h.2];clear h1 h2 hd hx hp hk f1 f2 e1 e2;go_enter Tryz.func115,Tryz.ntmps115;go_wp2_with fail
   generalize D:World.alloc _ _=W0;have U:=b_1 (w:=w) D (by go_grown);have XA:Hid (Cel W0 w.heap.size (.slice p n c) (.slice p2 E c2)):=a_F D (by simp [go_sem]);have XR:Hid (Cel W0 (w.heap.size+1) (.slice none 0 0) (.slice none 0 0)):=a_F D (by simp [go_sem]);clear D;refine (cl W0).mono ?_;rintro e w1 ⟨rfl,J⟩;have H:=a_N (a_c U.out J) J;clear J cl;obtain ⟨a0,a1,_,_⟩:=XA.out.up H.out.2;have z0:=a_a a0;go_wp2_with fail
   generalize R:World.alloc _ _=W2;have B2:Below w1.heap.size w1 W2:=by rw [<- R];exact a_b w1 _
   have XL:Hid (Cel W2 w1.heap.size (.func (.func K1) #[] #[]) (.func (.func K2) #[] #[])):=by show Cel _ _ _ _;unfold Cel;rw [<- R];simp [go_sem]
   have O:=a_N (a_c H.out.1 B2) (a_c H.out.2 B2);have HL:Hid (W0.heap.size<=w1.heap.size):=H.out.2.size;obtain ⟨bl,ah⟩:∃ bl,w1.heap.size=bl:=⟨_,rfl⟩
   rw [ah] at XL HL ⊢;clear R B2;refine (cA W2 O.out.1).mono ?_;rintro e w3 ⟨rfl,L⟩;have I:=a_N (a_c O.out.1 L) (a_c O.out.2 L);clear L cA a0 a1 z0;have xr:=(XR.out.up (I.out).2)
   have BF:=a_j ((I.out).1) (w.heap.size+1) (by omega) (.slice none 0 0) (.slice none 0 0);have cf:=xr.set (.slice none 0 0) (.slice none 0 0);obtain ⟨r0,r1,r2,r3⟩:=xr;obtain ⟨y0,y1,_,_⟩:=cf;go_wp2;exact bodyPost_ret (v:=.tuple #[.agg #[.slice none 0 0,.slice none 0 0],.int .i64 1]) (by simp [results,Tryz.results115,go_sem,y0,y1]) rfl ⟨_,rfl,TRes.none _ _,BF⟩
 ·have cl:=q_E k (by omega);rw [if_neg fun h=>hk h.1,if_neg fun h=>hk h.1,if_neg fun h=>hk h.1];clear h1 h2 hd hx hk cA;go_enter Tryz.func115,Tryz.ntmps115;go_wp2_with fail
  generalize D:World.alloc _ _=W0;have U:=b_1 (w:=w) D (by go_grown);have XA:Hid (Cel W0 w.heap.size (.slice p n c) (.slice p2 E c2)):=a_F D (by simp [go_sem]);have XR:Hid (Cel W0 (w.heap.size+1) (.slice none 0 0) (.slice none 0 0)):=a_F D (by simp [go_sem]);clear D;refine (cl W0).mono ?_;rintro e w1 ⟨rfl,J⟩;have H:=a_N (a_c U.out J) J;clear J cl;have xr:=(XR.out.up H.out.2)
  have aF:=a_a xr.1;have BF:=a_c (a_j H.out.1 (w.heap.size+1) (by omega) (.slice none 0 0) (.slice none 0 0)) (a_b _ (.cells #[.nilFunc,.nilFunc] 191));have cf:=(xr.set (.slice none 0 0) (.slice none 0 0)).up (a_b _ (.cells #[.nilFunc,.nilFunc] 191));obtain ⟨r0,r1,r2,r3⟩:=xr;obtain ⟨y0,y1,_,_⟩:=cf;go_wp2;exact bodyPost_ret (v:=.tuple #[.agg #[.slice none 0 0,.slice none 0 0],.int .i64 1]) (by simp [results,Tryz.results115,go_sem,y0,y1]) rfl ⟨_,rfl,TRes.none _ _,BF⟩
abbrev d_D (op:Int):Prop:=op=2∨op=3∨op=4∨op=6∨op=12
abbrev byP (op:Int):Prop:=op=5∨op=8∨op=11∨op=12∨op=13
/-- The table. -/
def rkE (op:Int) (D X D' X':List Int) (k:Int):Int:=
 if op=2∨op=3∨op=4 then b_C D X D' X' else if op=5 then e_L D X else if op=6 then mE D X D' X' else if op=7 then flE D X else if op=8 then smE D X k
 else if op=9∨op=10 then l_e D X else if op=11 then g_6 k D X else if op=12 then rwE D X D' X' k else if op=13 then plE D X k else j_J D X [(X.length:Int)]
def rkD (op:Int) (D X D' X':List Int) (k:Int):List Int:=
 if op=2∨op=3∨op=4 then b_J D X D' X' else if op=5 then f_x D X else if op=6 then mD D X D' X' else if op=7 then flD D X else if op=8 then smD D X k
 else if op=9∨op=10 then [] else if op=11 then k_O k D X else if op=12 then rwD D X D' X' k else if op=13 then plD D X k else j_K D X [(X.length:Int)]
def rkV (op:Int) (D X D' X':List Int) (k:Int):List Int:=
 if op=2 then b_Z (fun a b=>Fx.hold (a+b)) D X D' X' else if op=3 then b_Z (fun a b=>Fx.hold (a - b)) D X D' X' else if op=4 then b_Z Fx.mulI D X D' X' else if op=5 then f_y D X k else if op=6 then mV D X D' X' else if op=7 then flV D X else if op=8 then smV D X k
 else if op=9 then (if isP D X then [q_o D X] else []) else if op=10 then (if isP D X then [h_Y D X] else []) else if op=11 then m_x k D X else if op=12 then rwV D X D' X' k else if op=13 then plV D X k else l_d D X [(X.length:Int)]
/-- A tensor: its numbers are Go's. -/
def c_u (D X:List Int):Prop:=isP D X/\RI D/\RI X
theorem i_R {D:List Int} (h:goodN (ntl D)):RI D:=by
 have:=j_t h.le;rwa [l_o h.2.1] at this
theorem f_0 {D X:List Int} (h:isP D X) (E:RI X):c_u D X:=⟨h,i_R h.1,E⟩
theorem f_I {J:List Nat} {X:List Int} (h:goodN J) (D:X.length=a_e J):isP (itl J) X:=by
 unfold isP;rw [a_p];exact ⟨h,D⟩
theorem c_C {α:Type} {l:List α} {f:α->Int} (h:∀ a,a∈l->InR (f a)):RI (l.map f):=fun y E=>by
 obtain ⟨a,D,rfl⟩:=List.mem_map.1 E;exact h a D
theorem d_h {x:List Int} (h:RI x) (i:Nat):InR (x.getD i 0):=by
 rcases Nat.lt_or_ge i x.length with D|D
 ·exact h.at i D
 ·rw [List.getD_eq_getElem?_getD,List.getElem?_eq_none D];show InR 0;unfold InR;omega
theorem i_a {op:Int->Int->Int} (L:∀ a b,InR (op a b)) {d x d' y:List Int} (h:b_C d x d' y=0):c_u (b_J d x d' y) (b_Z op d x d' y):=by
 by_cases D:isP d x/\isP d' y
 ·by_cases H:b_x d d'=0
  ·obtain ⟨a,b,J,I⟩:=n_3 D H;obtain ⟨_,O,M⟩:=I.E (op:=op);rw [O,M];exact f_0 (f_I I.gJ (by simp)) (c_C fun i _=>L _ _)
  ·rw [(j_E (op:=op) D H).1] at h;exact absurd h H
 ·rw [(f_w (op:=op) D).1] at h;cases h
theorem m_y {d x:List Int} {k:Int} (h:e_L d x=0):c_u (f_x d x) (f_y d x k):=by
 unfold e_L at h;unfold f_x f_y;by_cases D:isP d x
 ·rw [if_pos D,if_pos D];exact f_0 ⟨D.1,by rw [List.length_map];exact D.2⟩ (c_C fun i _=>e_W _ _)
 ·rw [if_neg D] at h;cases h
theorem s_a {k:Int} {d x:List Int} (E:RI x) (h:g_6 k d x=0):c_u (k_O k d x) (m_x k d x):=by
 unfold g_6 at h;unfold k_O m_x;by_cases D:(1<=k/\k<=5)/\isP d x
 ·rw [if_pos D,if_pos D];exact f_0 ⟨D.2.1,by rw [List.length_map];exact D.2.2⟩ (c_C fun i H=>o_w (E i H))
 ·rw [if_neg D] at h;cases h
theorem t_g {d x d':List Int} (H:RI x) (h:j_J d x d'=0):c_u (j_K d x d') (l_d d x d'):=by
 unfold j_J at h;unfold j_K l_d;by_cases D:isP d x/\goodN (ntl d')
 ·rw [if_pos D] at h;by_cases E:a_e (ntl d')=x.length
  ·rw [if_pos ⟨D,E⟩,if_pos ⟨D,E⟩];exact f_0 ⟨D.2,E.symm⟩ H
  ·rw [if_neg E] at h;cases h
 ·rw [if_neg D] at h;cases h
theorem p_r (v:Int):isP [] [v]:=by
 unfold isP;refine ⟨⟨by simp [ntl],fun y D=>by simp [ntl] at D,by simp [ntl,a_e]⟩,by simp [ntl,a_e]⟩
theorem s_b {d x:List Int} (v:Int) (E:InR v):c_u [] [v]:=f_0 (p_r v) fun y D=>by
 simp at D;subst D;exact E
theorem o_y (d x:List Int):InR (q_o d x):=by
 unfold q_o
 split
 ·exact hold_rng _
 ·unfold InR;omega
theorem m_z (d x:List Int):InR (h_Y d x):=by
 unfold h_Y i_C
 split
 ·exact hold_rng _
 ·unfold InR;omega
theorem t_M {d x:List Int} (O:RI x) (h:flE d x=0):c_u (flD d x) (flV d x):=by
 unfold flE at h;unfold flD flV;by_cases D:isP d x
 ·rw [if_pos D] at h;by_cases E:d.length=2
  ·rw [if_pos ⟨D,E⟩,if_pos ⟨D,E⟩];obtain ⟨I,H,rfl,R,L,M,J⟩:=a_W D E;show c_u [(H:Int),(I:Int)] (o_c I H x);refine f_0 (l_7 (by unfold o_c;simp [Nat.mul_comm]) M L (by rw [Nat.mul_comm];exact J)) ?_;unfold o_c;exact c_C fun i _=>d_h O _
  ·rw [if_neg E] at h;cases h
 ·rw [if_neg D] at h;cases h
theorem m_g {d x d' y:List Int} (h:mE d x d' y=0):c_u (mD d x d' y) (mV d x d' y):=by
 unfold mE at h;unfold mD mV;by_cases J:isP d x/\isP d' y
 ·rw [if_pos J] at h;by_cases D:mP d x d' y
  ·rw [if_pos D] at h;by_cases I:mG d d'
   ·rw [if_pos ⟨D,I⟩,if_pos ⟨D,I⟩];obtain ⟨A,C,rfl,_⟩:=a_W D.1.1 D.2.2.1;obtain ⟨L,E,rfl,_⟩:=a_W D.1.2 D.2.1;show c_u [(A:Int),(E:Int)] (s_O A C E x y);have H:=s_N.1 I;refine f_0 (l_7 (by unfold s_O;simp) H.1 H.2.1 H.2.2) ?_;unfold s_O;exact c_C fun i _=>by unfold t_K rnd;exact hold_rng _
   ·rw [if_neg I] at h;cases h
  ·rw [if_neg D] at h;cases h
 ·rw [if_neg J] at h;cases h
theorem t_T {d x:List Int} {D:Int} (h:smE d x D=0):c_u (smD d x D) (smV d x D):=by
 unfold smE at h;unfold smD smV;by_cases H:smP d x D
 ·rw [if_pos H,if_pos H];have J:=H.1.1
  have I:D.toNat < (ntl d).length:=by
   have:=H.2;rw [a_Q];omega
  have E:goodN (b_m (ntl d) D.toNat):=d_e J _ I;refine f_0 (f_I E (by unfold p_l;simp)) ?_;unfold p_l;exact c_C fun i _=>by unfold s_P;exact hold_rng _
 ·rw [if_neg H] at h;cases h
theorem t_U {d x d' y:List Int} {st:Int} (h:rwE d x d' y st=0):c_u (rwD d x d' y st) (rwV d x d' y st):=by
 unfold rwE at h;unfold rwD rwV;by_cases D:rwA d x d' y st
 ·rw [if_pos D] at h;by_cases E:rwS d d'
  ·rw [if_pos E] at h;rw [if_pos ⟨D,E⟩,if_pos ⟨D,E⟩];unfold f_7 at h;by_cases H:goodN (ntl (rwO d d' st))
   ·unfold d_Y;rw [if_pos H,if_pos H];obtain ⟨O,C,W,rfl,_⟩:=c_h D.2.1 E.2.1;refine f_0 ⟨H,?_⟩ ?_
    ·rw [m_e];exact (c_o O _).symm
    ·unfold h_6;exact c_C fun i _=>by unfold m_d rnd;exact hold_rng _
   ·rw [if_neg H] at h;cases h
  ·rw [if_neg E] at h;cases h
 ·rw [if_neg D] at h;cases h
theorem t_V {d x:List Int} {wd:Int} (O:RI x) (h:plE d x wd=0):c_u (plD d x wd) (plV d x wd):=by
 unfold plE at h;unfold plD plV;by_cases E:isP d x
 ·rw [if_pos E] at h;by_cases H:d.length=2
  ·rw [if_pos H] at h;by_cases J:plW d wd
   ·rw [if_pos ⟨E,H,J⟩,if_pos ⟨E,H,J⟩];obtain ⟨I,D,rfl,hl,U,h1,M⟩:=a_W E H;have V:1<=wd/\wd<=(D:Int):=J;obtain ⟨W,rfl⟩:∃ W:Nat,wd=W:=⟨wd.toNat,by omega⟩
    show c_u [(I:Int),((D / W:Nat):Int)] (h_8 I D (D / W) W x);have R:1<=D / W:=Nat.div_pos (by omega) (by omega);have L:I*(D / W)<=4096:=Nat.le_trans (Nat.mul_le_mul_left I (Nat.div_le_self D W)) M;refine f_0 (l_7 (h_9 _ _ _ _ _) U R L) ?_;unfold h_8;exact c_C fun i _=>d_h O _
   ·rw [if_neg J] at h;cases h
  ·rw [if_neg H] at h;cases h
 ·rw [if_neg E] at h;cases h
theorem t_W {op:Int} (R:2<=op) (O:op<=14) {D X L M:List Int} {k:Int} (J:RI X) (h:rkE op D X L M k=0):c_u (rkD op D X L M k) (rkV op D X L M k):=by
 have I:op=2∨op=3∨op=4∨op=5∨op=6∨op=7∨op=8∨op=9∨op=10∨op=11∨op=12∨op=13∨op=14:=by omega
 rcases I with rfl|rfl|rfl|rfl|rfl|rfl|rfl|rfl|rfl|rfl|rfl|rfl|rfl
 ·exact i_a (fun a b=>hold_rng _) h
 ·exact i_a (fun a b=>hold_rng _) h
 ·exact i_a (fun a b=>e_W a b) h
 ·exact m_y h
 ·exact m_g h
 ·exact t_M J h
 ·exact t_T h
 ·have E:isP D X:=by
   by_cases E:isP D X
   ·exact E
   ·have H:l_e D X=0:=h;unfold l_e at H;rw [if_neg E] at H;cases H
  show c_u [] (if isP D X then [q_o D X] else []);rw [if_pos E];exact s_b (d:=D) (x:=X) _ (o_y D X)
 ·have E:isP D X:=by
   by_cases E:isP D X
   ·exact E
   ·have H:l_e D X=0:=h;unfold l_e at H;rw [if_neg E] at H;cases H
  show c_u [] (if isP D X then [h_Y D X] else []);rw [if_pos E];exact s_b (d:=D) (x:=X) _ (m_z D X)
 ·exact s_a J h
 ·exact t_U h
 ·exact t_V J h
 ·exact t_g J h
end Go.Proofs.YtcpbhhlepdgdkaaGreatDoor.Wd
namespace Go.Proofs.YtcpbhhlepdgdkaaGreatDoor.Wd
open Go.RowKit
section
variable {P : Program} {ops : Array Oper} {Q : Exit -> Act -> World -> Prop}
/-- The first m of n have come up. -/
def i_S (n m:Nat):Array Bool:=Array.replicate m true++Array.replicate (n - m) false
theorem f_J {n m:Nat} (h:m<=n):(i_S n m).size=n:=by simp [i_S];omega
theorem f_K {n m j:Nat} (h:j < m) (b:Bool):(i_S n m).getD j b=true:=by
 simp [i_S,Array.getD_eq_getD_getElem?,Array.getElem?_append,h]
theorem d_i {n m j:Nat} (h:m<=j) (D:j < n) (b:Bool):(i_S n m).getD j b=false:=by
 simp [i_S,Array.getD_eq_getD_getElem?,Array.getElem?_append,Nat.not_lt.2 h,Array.getElem?_replicate];rw [if_pos (by omega)];rfl
theorem j_3 {n m j:Nat} (h:m<=n) (D:n<=j) (b:Bool):(i_S n m).getD j b=b:=by
 simp [i_S,Array.getD_eq_getD_getElem?,Array.getElem?_append,Nat.not_lt.2 (Nat.le_trans h D),Array.getElem?_replicate];rw [if_neg (by omega)];rfl
theorem e_D {n m:Nat} (h:m<=n):(i_S n m).toList.count false=n - m:=by
 simp [i_S,List.count_replicate]
theorem q_F {n m:Nat} {l:Array Bool} (R:l.size=n) (L:m<=n) (O:∀ j,j < m->l.getD j false=true) (M:∀ j,m<=j->j < n->l.getD j true=false):l=i_S n m:=by
 refine Array.ext (by rw [R,f_J L]) fun j J D=>?_;have I:j < n:=by omega
 rcases Nat.lt_or_ge j m with c|c
 ·have E:=O j c;have H:=f_K (n:=n) c false;simp only [Array.getD_eq_getD_getElem?,Array.getElem?_eq_getElem J,Array.getElem?_eq_getElem D,Option.getD_some] at E H;rw [E,H]
 ·have E:=M j c I;have H:=d_i c I true;simp only [Array.getD_eq_getD_getElem?,Array.getElem?_eq_getElem J,Array.getElem?_eq_getElem D,Option.getD_some] at E H;rw [E,H]
/-- The region from operation number m on, in any order that it may take. -/
def e_M (P:Program) (ops:Array Oper) (Q:Exit->Act->World->Prop) (m:Nat) (a:Act) (w:World):Prop:=wpAny P .any ops Q (ops.size - m) (i_S ops.size m) a w
theorem d_U {id:Nat} {a:Act} {w:World} (D:P.follows .mixedOrders=true) (h:e_M P ops Q 0 a { w with drawn:=w.drawn+1 }):(Code.region id ops true).wp P Q a w:=by
 refine wp_region_any D ?_;unfold e_M at h;have:i_S ops.size 0=Array.replicate ops.size false:=by simp [i_S]
 rw [this,Nat.sub_zero] at h;exact h
/-- The rest is in the order of the text. -/
def s_c (ops:Array Oper) (m:Nat):Bool:=
 decide (m<=ops.size) && ((List.range ops.size).all fun i=>match ops[i]? with
  | none=>false
  | some o=>(o.after.all fun e=>!Region.binds .any e || decide (e.on < i)) && (List.range i).all fun j=>decide (j < m) || a_Z o j)
theorem f_L {a:Act} {w:World} (m:Nat) (O:s_c ops m=true) (h:wpList P ops Q (ops.toList.drop m) a w):e_M P ops Q m a w:=by
 simp only [s_c,Bool.and_eq_true,decide_eq_true_eq] at O;obtain ⟨L,D⟩:=O
 have hb:∀ i o,ops[i]?=some o->∀ e∈o.after,Region.binds .any e=true->e.on < i:=by
  intro i o E e he I;have:=List.all_eq_true.1 D i (List.mem_range.2 (Array.getElem?_eq_some_iff.1 E).1);simp only [E,Bool.and_eq_true] at this;have J:=Array.all_eq_true_iff_forall_mem.1 this.1 e he;simpa [I] using J
 have R:∀ i o,ops[i]?=some o->∀ j,m<=j->j < i->a_Z o j=true:=by
  intro i o E j M H;have:=List.all_eq_true.1 D i (List.mem_range.2 (Array.getElem?_eq_some_iff.1 E).1);simp only [E,Bool.and_eq_true] at this;have:=List.all_eq_true.1 this.2 j (List.mem_range.2 H);simp only [Bool.or_eq_true,decide_eq_true_eq] at this;rcases this with h|h
  ·omega
  ·exact h
 exact g_O hb R _ m _ a w (f_J L) (Nat.le_refl _) (e_D L) (fun j M=>f_K M false) (fun j J U=>d_i J U true) h
/-- A family of worlds of a class, which holds with each world all that keep what stood in it. -/
structure FamC (C:World->Prop) (F:World->World):Prop where
 cls:∀ d,C (F d)
 on:∀ d W,Below (F d).heap.size (F d) W->∃ d',W=F d'
theorem o_z {C:World->Prop} (D:∀ W W',C W->Below W.heap.size W W'->C W') {W:World} (h:C W):FamC C (e_t W):=
 ⟨fun d=>D _ _ h (a_V W d),fun d W' hb=>d_u ((a_V W d).trans (hb.mono (a_V W d).size))⟩
/-- The walk of a segment in the order of the text; operation number c is the one that may write (none, if c is not among the told). -/
def b_a (P:Program) (ops:Array Oper) (C:Bool->World->Prop) (T:World->World->Prop) (c:Nat) (ks:List Told) (x:Nat->Value) (G:Act):Nat->List Oper->Act->Prop
 | _,[],a=>a=G
 | i,o :: l,a=>match a_H ks i with
  | none=>∃ v,(∀ b F,FamC (C b) F->b_V ops ks o x F->if Region.wanted o (yielded ops a.tmps)=true then ∀ K:Act->Prop,K (a.put o.dst v)->o.quiet P a (fun W=>∃ d,W=F d) K else v=undef)/\b_a P ops C T c ks x G (i+1) l (a.put o.dst v)
  | some e=>(Region.wanted o (yielded ops a.tmps)=true/\(i≠c->∀ b F,FamC (C b) F->b_V ops ks o x F->∀ d,a_k P o a (F d) e.φ)/\(i=c->∀ W,C false W->b_V ops ks o x (fun _=>W)->b_P P o a W (fun v W'=>e.φ v W'/\C true W'/\T W W')))/\b_a P ops C T c ks x G (i+1) l (a.put (some e.t) (x e.k))
theorem q_G {a:Act} {t:Nat} {v:Value} (h:a.tmps.size<=t):a.put (some t) v=a:=by
 cases a;simp only at h;simp [Act.put,Array.setIfInBounds,Nat.not_lt.2 h]
/-- The slot that an operation writes; one beyond the frame's where it writes none (a store). -/
def dstOf (n:Nat) (o:Oper) (t:Tmp):Prop:=o.dst=some t∨(o.dst=none/\n<=t)
theorem dstOf.put {n:Nat} {o:Oper} {t:Tmp} (h:dstOf n o t) {a:Act} (E:a.tmps.size=n) (v:Value):a.put (some t) v=a.put o.dst v:=by
 rcases h with h|⟨h,D⟩
 ·rw [h]
 ·rw [h,q_G (by omega)];rfl
theorem f_M {C:Bool->World->Prop} {T:World->World->Prop} {c:Nat} {ks:List Told} {x:Nat->Value} {G:Act} {n:Nat}:∀ (l:List Oper) (i:Nat) (a:Act),a.tmps.size=n->(∀ j e,a_H ks (i+j)=some e->∀ o,l[j]?=some o->dstOf n o e.t)->b_a P ops C T c ks x G i l a->
  G.tmps.size=a.tmps.size/\G.defers=a.defers/\∀ t,t∉r_A l->G.tmps[t]?=a.tmps[t]?
 | [],i,a,_,_,h=>by
  obtain rfl:a=G:=h;exact ⟨rfl,rfl,fun _ _=>rfl⟩
 | o :: l,i,a,hn,hk,h=>by
  obtain ⟨v,L⟩:∃ v,b_a P ops C T c ks x G (i+1) l (a.put o.dst v):=by
   rw [b_a] at h
   split at h
   ·obtain ⟨v,_,E⟩:=h;exact ⟨v,E⟩
   ·rename_i e he
    have:=hk 0 e he o rfl;exact ⟨_,by rw [<- this.put hn];exact h.2⟩
  obtain ⟨R,E,O⟩:=f_M l (i+1) _ (by rw [a_K];exact hn) (fun j e he o M=>hk (j+1) e (by rw [show i+(j+1)=i+1+j by omega];exact he) o (by simpa using M)) L;refine ⟨by rw [R,a_K],by rw [E,b_s],fun t H=>?_⟩
  rw [O t (fun I=>H (by
   obtain ⟨x,J,D⟩:=List.mem_filterMap.1 I;exact List.mem_filterMap.2 ⟨x,List.mem_cons_of_mem _ J,D⟩)),a_7 (fun D=>H (List.mem_filterMap.2 ⟨o,List.mem_cons_self,D⟩))]
/-- What an operation yields in the last frame G. -/
def g_r (P:Program) (ops:Array Oper) (C:Bool->World->Prop) (T:World->World->Prop) (c:Nat) (ks:List Told) (x:Nat->Value) (G:Act) (i:Nat) (o:Oper):Prop:=
 match a_H ks i with
  | none=>∀ b F,FamC (C b) F->b_V ops ks o x F->(Region.wanted o (yielded ops G.tmps)=true/\∃ v,(∀ t,o.dst=some t->G.tmps[t]?=some v)/\∀ d,o.quietAt P G (fun W=>∃ d,W=F d) (F d) v)∨(Region.wanted o (yielded ops G.tmps)=false/\∀ t,o.dst=some t->G.tmps[t]?=some undef)
  | some e=>Region.wanted o (yielded ops G.tmps)=true/\(i≠c->∀ b F,FamC (C b) F->b_V ops ks o x F->∀ d,a_k P o G (F d) e.φ)/\(i=c->∀ W,C false W->b_V ops ks o x (fun _=>W)->b_P P o G W (fun v W'=>e.φ v W'/\C true W'/\T W W'))
theorem m_A {C:Bool->World->Prop} {T:World->World->Prop} {c:Nat} {ks:List Told} {x:Nat->Value} {G:Act} (n:Nat):∀ (l:List Oper) (i:Nat) (a:Act),a.tmps.size=n->(∀ o,o∈l->∀ cs b,o.op≠.select cs b)->c_2 ops n l=true->
  (∀ j e,a_H ks (i+j)=some e->∀ o,l[j]?=some o->dstOf n o e.t)->b_a P ops C T c ks x G i l a->∀ j o,l[j]?=some o->g_r P ops C T c ks x G (i+j) o
 | [],_,_,_,_,_,_,_,j,o,U=>by simp at U
 | o :: l,i,a,hn,hs,hl,hk,h,j,p,I=>by
  have ad:=f_M (o :: l) i a hn hk h;rw [c_2,Bool.and_eq_true,Bool.and_eq_true] at hl;obtain ⟨⟨E,M⟩,hl⟩:=hl
  have J:∀ t,t∈o.looksAt ops->G.tmps[t]?=a.tmps[t]?:=fun t H=>ad.2.2 t (fun hm=>by
   have:=List.all_eq_true.1 M t hm;simp at this;exact this H)
  have he:=c_g (ops:=ops) (hs o List.mem_cons_self) J;have hw:=b_y J;have R:∀ j e,a_H ks (i+1+j)=some e->∀ o,l[j]?=some o->dstOf n o e.t:=fun j e he o U=>hk (j+1) e (by rw [show i+(j+1)=i+1+j by omega];exact he) o (by simpa using U)
  have L:∀ v,b_a P ops C T c ks x G (i+1) l (a.put o.dst v)->∀ j p,(o :: l)[j+1]?=some p->g_r P ops C T c ks x G (i+(j+1)) p:=fun v V j p I=>by
   have:=m_A n l (i+1) (a.put o.dst v) (by rw [a_K];exact hn) (fun o U=>hs o (List.mem_cons_of_mem _ U)) hl R V j p (by simpa using I);rw [show i+(j+1)=i+1+j by omega];exact this
  have D:∀ v,b_a P ops C T c ks x G (i+1) l (a.put o.dst v)->∀ t,o.dst=some t->G.tmps[t]?=some v:=by
   intro v V t H;rw [H] at E V;simp at E;rw [(f_M l (i+1) _ (by rw [a_K];exact hn) R V).2.2 t E.2,b_F (by rw [hn];exact E.1)]
  rw [b_a] at h;cases O:a_H ks i with
  | none=>
   rw [O] at h;obtain ⟨v,h1,h2⟩:=h;cases j with
   | succ j=>exact L v h2 j p I
   | zero=>
    simp only [List.getElem?_cons_zero,Option.some.injEq] at I;subst I;unfold g_r;rw [Nat.add_zero,O];intro b F hF hf;have h3:=h1 b F hF hf;by_cases c:Region.wanted o (yielded ops a.tmps)=true
    ·rw [if_pos c] at h3;obtain ⟨u,hu,hK⟩:=h3 (fun a'=>a'=a.put o.dst v) rfl
     left
     refine ⟨hw.trans c,u,?_,fun d=>?_⟩
     ·intro t H;rw [D v h2 t H];rw [H] at hK E;simp at E;have e1:(a.put (some t) u).tmps[t]?=(a.put (some t) v).tmps[t]?:=congrArg (fun a=>a.tmps[t]?) hK;rw [b_F (by rw [hn];exact E.1),b_F (by rw [hn];exact E.1)] at e1;exact e1.symm
     ·have:=hu _ ⟨d,rfl⟩;unfold Oper.quietAt at *;rw [he];exact this
    ·rw [if_neg c] at h3
     right
     refine ⟨hw.trans (by simpa using c),fun t H=>?_⟩;rw [D v h2 t H,h3]
  | some e=>
   rw [O] at h;have aa:=hk 0 e O o rfl;cases j with
   | succ j=>exact L (x e.k) (by rw [<- aa.put hn];exact h.2) j p I
   | zero=>
    simp only [List.getElem?_cons_zero,Option.some.injEq] at I;subst I;unfold g_r;rw [Nat.add_zero,O];obtain ⟨g1,g2,g3⟩:=h.1;refine ⟨hw.trans g1,fun ac b F hF hf d=>?_,fun ab W hW hf=>?_⟩
    ·have:=g2 ac b F hF hf d;unfold a_k at *;rw [he];exact this
    ·have:=g3 ab W hW hf;unfold b_P at *;rw [he];exact this
/-- The shape of the segment from k to m: what stands from m on waits for all of it. -/
def s_Q (ops:Array Oper) (k m:Nat):Bool:=
 decide (m<=ops.size) && Region.noSelect ops &&
 ((List.range ops.size).all fun i=>match ops[i]? with
  | none=>false
  | some o=>(o.after.all fun e=>!Region.binds .any e || decide (e.on < i)) && (decide (i<=m) || (List.range i).any fun j=>decide (m<=j) && a_Z o j)) &&
 (decide (ops.size<=m) || (List.range m).all fun j=>decide (j < k) || (List.range (m+1)).any fun n=>decide (j < n) && match ops[n]? with
  | none=>false
  | some o=>a_Z o j) &&
 ((List.range m).all fun i=>decide (i < k) || match ops[i]? with
  | none=>false
  | some o=>(List.range m).all fun j=>decide (j < k) || match (ops[j]?).bind (·.dst) with
   | none=>true
   | some t=>(!(o.looksAt ops).contains t || a_Z o j) && (i==j || o.dst != some t))
/-- Each told operation is in the segment and writes the slot that it names; no two of them write one slot. -/
def o_A (ops:Array Oper) (ks:List Told) (k m n:Nat):Bool:=
 (ks.all fun e=>decide (k<=e.k) && decide (e.k < m) && (decide (e.t < n) && (((ops[e.k]?).bind (·.dst))==some e.t) || decide (n<=e.t) && (((ops[e.k]?).bind (·.dst))==none) && ops.toList.all fun o=>!(o.looksAt ops).contains e.t)) && decide (ks.map (·.t)).Nodup && decide (ks.map (·.k)).Nodup
structure InvS (ops:Array Oper) (C:Bool->World->Prop) (c:Nat) (ks:List Told) (k m:Nat) (G:Act) (listed:Array Bool) (s:Act) (W:World) (x:Nat->Value):Prop where
 size:listed.size=ops.size
 done:∀ j,j < k->listed.getD j false=true
 head:∀ j,m<=j->j < ops.size->listed.getD j true=false
 fsize:s.tmps.size=G.tmps.size
 fdef:s.defers=G.defers
 slot:∀ t,(∀ j o,k<=j->j < m->ops[j]?=some o->o.dst=some t->listed.getD j false=true)->s.tmps[t]?=G.tmps[t]?
 cls:C (listed.getD c false) W
 told:∀ e,e∈ks->listed.getD e.k false=true->e.φ (x e.k) W
 closed:∀ j o,ops[j]?=some o->listed.getD j false=true->∀ e∈o.after,Region.binds .any e=true->listed.getD e.on false=true
theorem InvS.all {C:Bool->World->Prop} {c:Nat} {W:World} {ks:List Told} {k m:Nat} {G s:Act} {D:Array Bool} {x:Nat->Value} (I:InvS ops C c ks k m G D s W x) (h:∀ j,j < m->D.getD j false=true):s=G:=by
 have H:s.tmps=G.tmps:=Array.ext_getElem? fun t=>I.slot t fun j _ _ J _ _=>h j J;have E:=I.fdef;cases s;cases G;simp only at H E;rw [H,E]
theorem q_H {C:Bool->World->Prop} {T:World->World->Prop} {c:Nat} {ks:List Told} {k m n:Nat} {G:(Nat->Value)->Act} {G0:Act} (hB:s_Q ops k m=true) (hK:o_A ops ks k m n=true) (bd:k<=m)
  (hC:∀ b W W',C b W->Below W.heap.size W W'->C b W')
  (aZ:(∃ e,e∈ks/\e.k=c)∨m<=c)
  (hφ:∀ e,e∈ks->∀ v W W',e.φ v W->Below W.heap.size W W'->e.φ v W')
  (hT:∀ e,e∈ks->e.k≠c->∀ v W W',e.φ v W->C false W->T W W'->e.φ v W')
  (hG:∀ x,G x=b_l ks x G0) (hn:G0.tmps.size=n)
  (aN:∀ x i o,k<=i->i < m->ops[i]?=some o->g_r P ops C T c ks x (G x) i o)
  (ht:∀ W x,C (decide (c < m)) W->(∀ e,e∈ks->e.φ (x e.k) W)->e_M P ops Q m (G x) W):
  ∀ (fuel:Nat) (D:Array Bool) (s:Act) (W:World) (x:Nat->Value),D.toList.count false=fuel->InvS ops C c ks k m (G x) D s W x->wpAny P .any ops Q fuel D s W:=by
 simp only [s_Q,Bool.and_eq_true,decide_eq_true_eq] at hB;obtain ⟨⟨⟨⟨hm,aT⟩,am⟩,ar⟩,hX⟩:=hB;simp only [o_A,Bool.and_eq_true,decide_eq_true_eq] at hK;obtain ⟨⟨hK,a9⟩,a8⟩:=hK
 have aJ:∀ e,e∈ks->(k<=e.k/\e.k < m)/\((e.t < n/\(ops[e.k]?).bind (·.dst)=some e.t)∨((n<=e.t/\(ops[e.k]?).bind (·.dst)=none)/\∀ o,o∈ops->(o.looksAt ops).contains e.t=false)):=by
  intro e he;have:=List.all_eq_true.1 hK e he;simp only [Bool.and_eq_true,Bool.or_eq_true,decide_eq_true_eq,beq_iff_eq] at this;refine ⟨this.1,this.2.imp id fun h=>⟨h.1,fun o L=>?_⟩⟩;have:=List.all_eq_true.1 h.2 o (Array.mem_toList_iff.2 L);simpa using this
 have hb:∀ i o,ops[i]?=some o->∀ e∈o.after,Region.binds .any e=true->e.on < i:=by
  intro i o L e he a5;have:=List.all_eq_true.1 am i (List.mem_range.2 (Array.getElem?_eq_some_iff.1 L).1);simp only [L,Bool.and_eq_true] at this;have O:=Array.all_eq_true_iff_forall_mem.1 this.1 e he;simpa [a5] using O
 have a1:∀ i o,ops[i]?=some o->m < i->∃ j,m<=j/\j < i/\a_Z o j=true:=by
  intro i o L hj;have:=List.all_eq_true.1 am i (List.mem_range.2 (Array.getElem?_eq_some_iff.1 L).1);simp only [L,Bool.and_eq_true] at this;have:=this.2;simp only [Bool.or_eq_true,decide_eq_true_eq] at this;rcases this with h|h
  ·omega
  ·obtain ⟨j,a2,aF⟩:=List.any_eq_true.1 h;simp only [Bool.and_eq_true,decide_eq_true_eq] at aF;exact ⟨j,aF.1,List.mem_range.1 a2,aF.2⟩
 have hS:m < ops.size->∀ j,k<=j->j < m->∃ n o,j < n/\n<=m/\ops[n]?=some o/\a_Z o j=true:=by
  intro aq j ac hj;rw [Bool.or_eq_true] at ar;rcases ar with h|h
  ·simp at h;omega
  ·have h0:=List.all_eq_true.1 h j (List.mem_range.2 hj);rw [Bool.or_eq_true] at h0;rcases h0 with h0|h0
   ·simp at h0;omega
   ·obtain ⟨n,hk,O⟩:=List.any_eq_true.1 h0;simp only [Bool.and_eq_true,decide_eq_true_eq] at O;have aE:n < ops.size:=by have:=List.mem_range.1 hk;omega
    have L:ops[n]?=some ops[n]:=Array.getElem?_eq_getElem aE;rw [L] at O;exact ⟨n,_,O.1,by have:=List.mem_range.1 hk;omega,L,O.2⟩
 have aY:∀ i o,k<=i->i < m->ops[i]?=some o->∀ j t,k<=j->j < m->(ops[j]?).bind (·.dst)=some t->(t∈o.looksAt ops->a_Z o j=true)/\(i≠j->o.dst≠some t):=by
  intro i o ay hi L j t ac hj hd;have h0:=List.all_eq_true.1 hX i (List.mem_range.2 hi);rw [Bool.or_eq_true] at h0;have h0:_:=h0.resolve_left (by simp;omega);simp only [L] at h0;have O:=List.all_eq_true.1 h0 j (List.mem_range.2 hj);rw [Bool.or_eq_true] at O;have this:=O.resolve_left (by simp;omega);simp only [hd,Bool.and_eq_true,Bool.or_eq_true,bne_iff_ne,beq_iff_eq,Bool.not_eq_true',List.contains_eq_mem,decide_eq_false_iff_not] at this;refine ⟨fun hl=>?_,fun ao=>?_⟩
  ·rcases this.1 with h|h
   ·exact absurd hl h
   ·exact h
  ·rcases this.2 with h|h
   ·exact absurd h ao
   ·exact h
 have V:∀ x,(G x).tmps.size=n:=fun x=>by rw [hG,e_u];exact hn
 have a6:∀ x e,e∈ks->e.t < n->(G x).tmps[e.t]?=some (x e.k):=fun x e he aq=>by
  rw [hG];exact g_P x ks G0 a9 e he (by rw [hn];exact aq)
 have ai:∀ (D:Array Bool) (s:Act) (W:World) (x:Nat->Value),InvS ops C c ks k m (G x) D s W x->(∀ j,j < m->D.getD j false=true)->wpAny P .any ops Q (D.toList.count false) D s W:=by
  intro D s W x E H;have hs:=E.all H;have hl:=q_F E.size hm H E.head
  have aK:D.getD c false=decide (c < m):=by
   rw [hl];rcases Nat.lt_or_ge c m with h|h
   ·rw [f_K h];simp [h]
   ·have:decide (c < m)=false:=by simp;omega
    rw [this];rcases Nat.lt_or_ge c ops.size with h'|h'
    ·exact d_i h h' _
    ·exact j_3 hm h' _
  have h:=ht W x (by rw [<- aK];exact E.cls) (fun e he=>E.told e he (H _ (aJ e he).1.2));unfold e_M at h;rw [hl,e_D hm,hs];exact h
 intro fuel
 induction fuel with
 | zero=>
  intro D s W x hc E;have H:∀ j,j < m->D.getD j false=true:=fun j hj=>d_6 (by rw [E.size];omega) (b_t hc j);have:=ai D s W x E H;rw [hc] at this;exact this
 | succ fuel ih=>
  intro D s W x hc E
  refine ⟨fun hr=>by
   obtain ⟨i,hi⟩:=d_v hc;exact absurd hr (c_L E.size hb i hi),fun i hi=>?_⟩
  obtain ⟨ak,o,L,H⟩:=mem_ready.1 hi;have aV:i < ops.size:=(Array.getElem?_eq_some_iff.1 L).1
  have ay:k<=i:=by
   rcases Nat.lt_or_ge i k with h|h
   ·have O:=E.done i h;have h2:=(b_e ak).2;rw [O] at h2;cases h2
   ·exact h
  rcases Nat.lt_or_ge i m with ax|ax
  ·have aB:∀ t,t∈o.looksAt ops->s.tmps[t]?=(G x).tmps[t]?:=fun t af=>
    E.slot t fun j oj ac hj ab hd=>a_o ((aY i o ay ax L j t ac hj (by rw [ab];exact hd)).1 af) H
   have he:=c_g (ops:=ops) (Region.noSelect_spec aT i o · · L) aB;have aM:=b_y aB
   have ad:∀ e,e∈ks->(o.looksAt ops).contains e.t=true->D.getD e.k false=true:=fun e M af=>by
    obtain ⟨O,⟨_,h3⟩|h3⟩:=aJ e M
    ·exact a_o ((aY i o ay ax L e.k e.t O.1 O.2 h3).1 (by simpa using af)) H
    ·have:=h3.2 o (Array.mem_of_getElem? L);rw [af] at this;cases this
   have ap:b_V ops ks o x (e_t W):=fun e M af d=>hφ e M _ _ _ (E.told e M (ad e M af)) (a_V W d);have ag:=aN x i o ay ax L;unfold g_r at ag;have aS:=o_z (hC (D.getD c false)) E.cls;obtain ⟨d0,aO⟩:=d_u (Below.refl W.heap.size W)
   have au:∀ e,e∈ks->e.k≠i->(D.setIfInBounds i true).getD e.k false=true->D.getD e.k false=true:=fun e _ ao h=>by
    rw [getD_set_ne false (Ne.symm ao)] at h;exact h
   have an:∀ j,j < k->(D.setIfInBounds i true).getD j false=true:=fun j hj=>by rw [getD_set_ne false (by omega)];exact E.done j hj
   unfold wpOp;simp only [L];cases av:a_H ks i with
   | none=>
    rw [av] at ag;have ag:=ag _ _ aS ap;have aW:=d_S av
    have ba:i≠c:=by
     rcases aZ with ⟨e,a0,a4⟩|h
     ·rw [<- a4];exact fun h=>aW e a0 h.symm
     ·omega
    have aa:∀ (v:Value) (W':World),(∀ t,o.dst=some t->(G x).tmps[t]?=some v)->Below W.heap.size W W'->wpAny P .any ops Q fuel (D.setIfInBounds i true) (s.put o.dst v) W':=by
     intro v W' hv aU;refine ih _ _ W' x (a_2 ak hc) ⟨by simpa using E.size,an,fun j hj aD=>by rw [getD_set_ne true (by omega)];exact E.head j hj aD,by rw [a_K];exact E.fsize,by rw [b_s];exact E.fdef,fun t ah=>?_,by rw [getD_set_ne false ba];exact hC _ _ _ E.cls aU,fun e M hl=>hφ e M _ _ _ (E.told e M (au e M (aW e M) hl)) aU,b_A L H E.closed⟩;by_cases hd:o.dst=some t
     ·rw [hv t hd,hd];exact b_F (by rw [E.fsize];exact (Array.getElem?_eq_some_iff.1 (hv t hd)).1)
     ·rw [a_7 hd];refine E.slot t fun j oj ac hj ab aw=>?_;have:=ah j oj ac hj ab aw;by_cases c:i=j
      ·subst c;rw [L] at ab;cases ab;exact absurd aw hd
      ·rw [getD_set_ne false c] at this;exact this
    rcases ag with ⟨hw,v,hv,hq⟩|⟨hw,hu⟩
    ·rw [if_pos (aM.trans hw)]
     left
     have hq:=hq d0;rw [<- aO] at hq;unfold Oper.wp;unfold Oper.quietAt at hq;rw [he];generalize (execOp (G x).eval o).run P W=r at hq;cases r with
     | halt x w'=>exact hq.elim
     | ok n w'=>
      cases n <;> simp only [Oper.quietUpon] at hq <;> simp only [Oper.upon]
      case value u=>
       obtain ⟨e1,e2⟩:=hq;rw [e1,e2];exact aa v W hv (Below.refl _ _)
      case skip=>
       obtain ⟨e1,e2⟩:=hq;rw [e1,<- e2];exact aa v W hv (Below.refl _ _)
      case enter f args=>
       obtain ⟨e1,hc⟩:=hq;rw [e1];exact hc.mono fun e az ⟨he,d,aP⟩=>by subst he;rw [aP];exact aa v _ hv (a_V W d)
    ·rw [if_neg (by rw [aM,hw];exact Bool.false_ne_true)];exact aa undef W hu (Below.refl _ _)
   | some e=>
    rw [av] at ag;obtain ⟨M,a3⟩:=b_Q av;subst a3
    have ae:(e.t < n/\o.dst=some e.t)∨(n<=e.t/\o.dst=none):=by
     have:=(aJ e M).2;rw [L] at this;exact this.imp id fun h=>h.1
    have aC:∀ I,I∈ks->I.k=e.k->I=e:=fun I R hk=>by
     have O:=d_w ks a8 I R;rw [hk,av] at O;exact (Option.some.inj O).symm
    have aa:∀ (v:Value) (W':World),e.φ v W'->C ((D.setIfInBounds e.k true).getD c false) W'->(∀ I,I∈ks->I.k≠e.k->∀ u,D.getD I.k false=true->I.φ u W->I.φ u W')->wpAny P .any ops Q fuel (D.setIfInBounds e.k true) (s.put o.dst v) W':=by
     intro v W' hv aX aL;refine ih _ _ W' (upd x e.k v) (a_2 ak hc) ⟨by simpa using E.size,an,fun j hj aD=>by rw [getD_set_ne true (by omega)];exact E.head j hj aD,by rw [a_K,E.fsize,V,V],by rw [b_s,E.fdef,hG,hG,b_N,b_N],fun t ah=>?_,aX,fun I U hl=>?_,b_A L H E.closed⟩
     ·by_cases hd:o.dst=some t
      ·rw [hd];rcases ae with ⟨aq,ae⟩|⟨_,ae⟩
       case inr=>rw [ae] at hd;cases hd
       obtain rfl:e.t=t:=by rw [ae] at hd;exact Option.some.inj hd
       rw [a6 _ e M aq,b_F (by rw [E.fsize,V];exact aq)];show some v=some (if e.k=e.k then v else x e.k);rw [if_pos rfl]
      ·by_cases aI:n<=t
       ·rw [a_7 hd,Array.getElem?_eq_none (by rw [E.fsize,V];exact aI),Array.getElem?_eq_none (by rw [V];exact aI)]
       rw [a_7 hd,hG,d_8 x e.k v t ks G0 G0 rfl rfl (fun I R aE hh=>by
        have aR:e.t=t:=by rw [<- aC I R aE];exact hh
        rcases ae with ⟨_,ae⟩|⟨bb,_⟩
        ·exact hd (by rw [ae,aR])
        ·exact aI (aR ▸ bb)),<- hG]
       refine E.slot t fun j oj ac hj ab aw=>?_;have:=ah j oj ac hj ab aw;by_cases c:e.k=j
       ·subst c;rw [L] at ab;cases ab;exact absurd aw hd
       ·rw [getD_set_ne false c] at this;exact this
     ·by_cases c:I.k=e.k
      ·obtain rfl:=aC I U c;show I.φ (if I.k=I.k then v else x I.k) W';rw [if_pos rfl];exact hv
      ·show I.φ (if I.k=e.k then v else x I.k) W';rw [if_neg c];have aA:=au I U c hl;exact aL I U c _ aA (E.told I U aA)
    obtain ⟨hw,hy,hz⟩:=ag;rw [if_pos (aM.trans hw)]
    left
    by_cases aj:e.k=c
    ·have aK:D.getD c false=false:=by rw [<- aj];exact (b_e ak).2
     have aG:=E.cls;rw [aK] at aG;have hy:=hz aj W aG (fun I U af _=>E.told I U (ad I U af))
     have a7:(D.setIfInBounds e.k true).getD c false=true:=by
      rw [aj] at ak ⊢;have:=(b_e ak).1;simp [this]
     have J:∀ (v:Value) (W':World),(e.φ v W'/\C true W'/\T W W')->wpAny P .any ops Q fuel (D.setIfInBounds e.k true) (s.put o.dst v) W':=fun v W' ⟨O,h2,h3⟩=>
      aa v W' O (by rw [a7];exact h2) (fun I R ao u _ hu=>hT I R (by rw [<- aj];exact ao) u W W' hu aG h3)
     unfold Oper.wp;unfold b_P at hy;rw [he];generalize (execOp (G x).eval o).run P W=r at hy;cases r with
     | halt x w'=>exact hy.elim
     | ok n w'=>
      cases n <;> simp only [b_O] at hy <;> simp only [Oper.upon]
      case value u=>exact J u w' hy
      case skip=>exact J undef w' hy
      case enter f args=>
       obtain ⟨e1,hc⟩:=hy;rw [e1];exact hc.mono fun I az ⟨v,R,O⟩=>by subst R;exact J v az O
    ·have hy:=hy aj _ _ aS ap d0;rw [<- aO] at hy
     have J:∀ (v:Value) (W':World),e.φ v W'->Below W.heap.size W W'->wpAny P .any ops Q fuel (D.setIfInBounds e.k true) (s.put o.dst v) W':=fun v W' O h2=>
      aa v W' O (by rw [getD_set_ne false aj];exact hC _ _ _ E.cls h2) (fun I R _ u _ hu=>hφ I R u W W' hu h2)
     unfold Oper.wp;unfold a_k at hy;rw [he];generalize (execOp (G x).eval o).run P W=r at hy;cases r with
     | halt x w'=>exact hy.elim
     | ok n w'=>
      cases n <;> simp only [a_f] at hy <;> simp only [Oper.upon]
      case value u=>exact J u w' hy.1 hy.2
      case skip=>exact J undef w' hy.1 hy.2
      case enter f args=>
       obtain ⟨e1,hc⟩:=hy;rw [e1];exact hc.mono fun I az ⟨v,R,O,h2⟩=>by subst R;exact J v az O h2
  ·obtain rfl:i=m:=by
    rcases Nat.lt_or_ge m i with c|c
    ·obtain ⟨j,h0,O,h2⟩:=a1 i o L c;have h3:=a_o h2 H;have h4:=(b_e (E.head j h0 (by omega))).2;rw [h3] at h4;cases h4
    ·omega
   have hl:∀ d j,i - j=d->k<=j->j < i->D.getD j false=true:=by
    intro d
    induction d using Nat.strongRecOn with
    | _ d ihd=>
     intro j hd ac hj;obtain ⟨n,on,bc,hn,aH,aQ⟩:=hS aV j ac hj;rcases Nat.lt_or_ge n i with c|c
     ·have:=ihd (i - n) (by omega) n rfl (by omega) c;exact a_o aQ (E.closed n on aH this)
     ·obtain rfl:n=i:=by omega
      rw [L] at aH;cases aH;exact a_o aQ H
   have aA:∀ j,j < i->D.getD j false=true:=fun j hj=>by
    rcases Nat.lt_or_ge j k with c|c
    ·exact E.done j c
    ·exact hl (i - j) j rfl c hj
   have h:=ai D s W x E aA;rw [hc] at h;exact h.2 i hi
/-- THE LAW of one segment, from k to m. -/
theorem seg {a:Act} {w:World} {l:List Oper} (C:Bool->World->Prop) (T:World->World->Prop) (c:Nat) (ks:List Told) (k m n:Nat) (hn:a.tmps.size=n) (J:l=(ops.toList.drop k).take (m - k)) (hB:(decide (k<=m) && s_Q ops k m && c_2 ops n l)=true) (hK:o_A ops ks k m n=true)
  (hC:∀ b W W',C b W->Below W.heap.size W W'->C b W') (hw:C false w)
  (ab:(∃ e,e∈ks/\e.k=c)∨m<=c)
  (hφ:∀ e,e∈ks->∀ v W W',e.φ v W->Below W.heap.size W W'->e.φ v W')
  (hT:∀ e,e∈ks->e.k≠c->∀ v W W',e.φ v W->C false W->T W W'->e.φ v W')
  (h:∃ G:(Nat->Value)->Act,(∀ x,b_a P ops C T c ks x (G x) k l a)/\(∀ x,G x=b_l ks x (G fun _=>undef))/\
   ∀ W x,C (decide (c < m)) W->(∀ e,e∈ks->e.φ (x e.k) W)->e_M P ops Q m (G x) W):e_M P ops Q k a w:=by
 obtain ⟨G,h1,h2,h3⟩:=h;simp only [Bool.and_eq_true,decide_eq_true_eq] at hB;obtain ⟨⟨E,af⟩,ae⟩:=hB;have I:=af;simp only [s_Q,Bool.and_eq_true,decide_eq_true_eq] at I;have M:=I.1.1.1.1;have V:=hK;simp only [o_A,Bool.and_eq_true,decide_eq_true_eq] at V
 have ag:∀ e,e∈ks->k<=e.k/\e.k < m:=fun e U=>by
  have:=List.all_eq_true.1 V.1.1 e U;simp only [Bool.and_eq_true,Bool.or_eq_true,decide_eq_true_eq,beq_iff_eq] at this;exact this.1
 have O:∀ j,k+j < m->l[j]?=ops[k+j]?:=by
  intro j H;rw [J,List.getElem?_take_of_lt (by omega),List.getElem?_drop];simp
 have hk:∀ j e,a_H ks (k+j)=some e->∀ o,l[j]?=some o->dstOf n o e.t:=by
  intro j e he o D;obtain ⟨U,ac⟩:=b_Q he;have:=List.all_eq_true.1 V.1.1 e U;simp only [Bool.and_eq_true,Bool.or_eq_true,decide_eq_true_eq,beq_iff_eq] at this;rw [O j (by rw [<- ac];exact this.1.2)] at D;have h4:=this.2;rw [ac,D] at h4;exact h4.imp (fun h=>h.2) fun h=>⟨h.1.2,h.1.1⟩
 have aa:∀ o,o∈l->∀ cs b,o.op≠.select cs b:=by
  intro o D cs b;rw [J] at D;obtain ⟨j,H,e⟩:=List.getElem_of_mem (List.mem_of_mem_drop (List.mem_of_mem_take D));exact Region.noSelect_spec I.1.1.1.2 j o cs b (by rw [<- e];simp at H ⊢)
 have ao:∀ x,(G x).tmps.size=n:=fun x=>by rw [(f_M l k a hn hk (h1 x)).1,hn]
 have R:=f_M l k a hn hk (h1 fun _=>undef);unfold e_M;refine q_H (C:=C) (T:=T) (c:=c) (ks:=ks) (k:=k) (m:=m) (n:=n) (G:=G) (G0:=G fun _=>undef) af hK E hC ab hφ hT h2 (ao _) (fun x i o aq hi D=>?_) h3 _ _ _ _ (fun _=>undef) ?_ ⟨f_J (Nat.le_trans E M),fun j H=>f_K H _,fun j H aj=>d_i (Nat.le_trans E H) aj _,R.1.symm,R.2.1.symm,fun t hc=>?_,?_,fun e he J=>?_,fun j o D J e he an=>?_⟩
 ·have:=m_A n l k a hn aa ae hk (h1 x) (i - k) o (by rw [O (i - k) (by omega),show k+(i - k)=i by omega];exact D);rw [show k+(i - k)=i by omega] at this;exact this
 ·exact e_D (Nat.le_trans E M)
 ·refine (R.2.2 t fun ak=>?_).symm;obtain ⟨o,D,hd⟩:=List.mem_filterMap.1 ak;obtain ⟨j,H,e⟩:=List.getElem_of_mem D;have ar:j < m - k:=by rw [J] at H;simp at H;omega
  have ad:ops[k+j]?=some o:=by rw [<- O j (by omega),List.getElem?_eq_getElem H,e]
  have L:k+j < ops.size:=(Array.getElem?_eq_some_iff.1 ad).1;have:=hc (k+j) o (by omega) (by omega) ad hd;rw [d_i (by omega) L] at this;cases this
 ·have:(i_S ops.size k).getD c false=false:=by
   have ai:k<=c:=by
    rcases ab with ⟨e,ah,am⟩|h
    ·rw [<- am];exact (ag e ah).1
    ·omega
   rcases Nat.lt_or_ge c ops.size with h|h
   ·exact d_i ai h _
   ·exact j_3 (Nat.le_trans E M) h _
  rw [this];exact hw
 ·obtain ⟨h4,h5⟩:=ag e he;rw [d_i h4 (by omega)] at J;cases J
 ·have L:j < ops.size:=(Array.getElem?_eq_some_iff.1 D).1
  have ap:j < k:=by
   rcases Nat.lt_or_ge j k with h|h
   ·exact h
   ·rw [d_i h L] at J;cases J
  have h6:=List.all_eq_true.1 I.1.1.2 j (List.mem_range.2 L);simp only [D,Bool.and_eq_true] at h6;have h7:=Array.all_eq_true_iff_forall_mem.1 h6.1 e he;have h8:e.on < j:=by simpa [an] using h7
  exact f_K (by omega) _
theorem b_S {C:Bool->World->Prop} {T:World->World->Prop} {c:Nat} {ks:List Told} {x:Nat->Value} {G a:Act} {i:Nat} {o:Oper} {l:List Oper} (I:a_H ks i=none) (H:Region.wanted o (yielded ops a.tmps)=true)
  (h:∃ v,(∀ b F,FamC (C b) F->b_V ops ks o x F->∀ K:Act->Prop,K (a.put o.dst v)->o.quiet P a (fun W=>∃ d,W=F d) K)/\b_a P ops C T c ks x G (i+1) l (a.put o.dst v)):b_a P ops C T c ks x G i (o :: l) a:=by
 rw [b_a,I];obtain ⟨v,E,D⟩:=h;exact ⟨v,fun b F hF hf=>by rw [if_pos H];exact E b F hF hf,D⟩
theorem i_T {C:Bool->World->Prop} {T:World->World->Prop} {c:Nat} {ks:List Told} {x:Nat->Value} {G a:Act} {i:Nat} {o:Oper} {l:List Oper} {e:Told} (J:a_H ks i=some e) (E:i≠c) (I:Region.wanted o (yielded ops a.tmps)=true)
  (H:∀ b F,FamC (C b) F->b_V ops ks o x F->∀ d,a_k P o a (F d) e.φ) (D:b_a P ops C T c ks x G (i+1) l (a.put (some e.t) (x e.k))):b_a P ops C T c ks x G i (o :: l) a:=by
 rw [b_a,J];exact ⟨⟨I,fun _=>H,fun h=>absurd h E⟩,D⟩
theorem i_U {C:Bool->World->Prop} {T:World->World->Prop} {c:Nat} {ks:List Told} {x:Nat->Value} {G a:Act} {i:Nat} {o:Oper} {l:List Oper} {e:Told} (J:a_H ks i=some e) (E:i=c) (I:Region.wanted o (yielded ops a.tmps)=true)
  (H:∀ W,C false W->b_V ops ks o x (fun _=>W)->b_P P o a W (fun v W'=>e.φ v W'/\C true W'/\T W W')) (D:b_a P ops C T c ks x G (i+1) l (a.put (some e.t) (x e.k))):b_a P ops C T c ks x G i (o :: l) a:=by
 rw [b_a,J];exact ⟨⟨I,fun h=>absurd E h,fun _=>H⟩,D⟩
theorem m_B {C:Bool->World->Prop} {T:World->World->Prop} {c:Nat} {ks:List Told} {x:Nat->Value} {G a:Act} {i:Nat} (h:a=G):b_a P ops C T c ks x G i [] a:=h
end
end Go.Proofs.YtcpbhhlepdgdkaaGreatDoor.Wd
namespace Go.Proofs.YtcpbhhlepdgdkaaGreatDoor.Wd
open Go.RowKit Fx
def f_N (ns:List Nd) (d x:List Int):Int:=if 512<=ns.length then 2 else if isP d x then 0 else 1
def f_O (ns:List Nd) (d x:List Int):Int:=if ns.length < 512/\isP d x then (ns.length:Int) else 0
def c_S (ns:List Nd) (d x:List Int):List Nd:=if ns.length < 512/\isP d x then ns++[⟨1,-1,-1,0,d,x⟩] else ns
theorem OwnK.form_ {e:TypeId} {W:World} {B:Nat} {v:Value} {l:List Int} (h:OwnK .i64 e W B v l):∃ p n c,v = .slice p n c:=by
 obtain ⟨p,n,c,e,_⟩:=h.nums.lst;exact ⟨p,n,c,e⟩
theorem k_P {e:TypeId} {W:World} {B n:Nat} {v:Value} {E:List Value} (h:W.ownsRow B e 6 v n E):∀ j,v.ownBlock=some j->B<=j:=fun j D=>(World.ownsRow.lt h j D).1
theorem m_C {w D:World} {a b c d e f:Value} (h:((w.alloc (.cells #[a,b] 77)).alloc (.cells #[c,d] 77)).alloc (.cells #[e,f] 77)=D):Hid (Below w.heap.size w D)/\Hid (Cel D w.heap.size a b)/\Hid (Cel D (w.heap.size+1) c d)/\Hid (Cel D (w.heap.size+2) e f):=⟨b_1 (w:=w) h (by go_grown),a_F h (by simp [go_sem]),a_F h (by simp [go_sem]),a_F h (by simp [go_sem])⟩
def ndN (ns:List Nd) (i:Int):Nd:=ns.getD i.toNat ⟨0,0,0,0,[],[]⟩
abbrev okD (ns:List Nd) (op a b:Int):Prop:=(2<=op/\op<=14)/\(0<=a/\a < (ns.length:Int))/\(d_D op->0<=b/\b < (ns.length:Int))
def dB (op b:Int):Int:=if d_D op then b else -1
def dK (op k:Int):Int:=if byP op then k else 0
def dD (ns:List Nd) (op b:Int):List Int:=if d_D op then (ndN ns b).D else []
def dX (ns:List Nd) (op b:Int):List Int:=if d_D op then (ndN ns b).X else []
def dE (ns:List Nd) (op a b k:Int):Int:=rkE op (ndN ns a).D (ndN ns a).X (dD ns op b) (dX ns op b) (dK op k)
def dN (ns:List Nd) (op a b k:Int):Nd:=⟨op,a,dB op b,dK op k,rkD op (ndN ns a).D (ndN ns a).X (dD ns op b) (dX ns op b) (dK op k),rkV op (ndN ns a).D (ndN ns a).X (dD ns op b) (dX ns op b) (dK op k)⟩
def doE (ns:List Nd) (op a b k:Int):Int:=if 512<=ns.length then 2 else if okD ns op a b then dE ns op a b k else 1
abbrev doP (ns:List Nd) (op a b k:Int):Prop:=(ns.length < 512/\okD ns op a b)/\dE ns op a b k=0
def doR (ns:List Nd) (op a b k:Int):Int:=if doP ns op a b k then (ns.length:Int) else 0
def doN (ns:List Nd) (op a b k:Int):List Nd:=if doP ns op a b k then ns++[dN ns op a b k] else ns
def NodesG (ns:List Nd):Prop:=∀ nd,nd∈ns->c_u nd.D nd.X
theorem g_s {W:World} {b:Nat} {I L H J E D:Value} {e:TypeId} (h:W.heap[b]?=some (.cells #[I,L,H,J,E,D] e (0,0))):
  (W.cell? ⟨b,0,none⟩=some I/\W.cell? ⟨b,1,none⟩=some L/\W.cell? ⟨b,2,none⟩=some H/\W.cell? ⟨b,3,none⟩=some J/\W.cell? ⟨b,4,none⟩=some E/\W.cell? ⟨b,5,none⟩=some D)/\∀ j,W.frozen? ⟨b,j,none⟩=false:=by
 have c:∀ j v,#[I,L,H,J,E,D][j]?=some v->W.cell? ⟨b,j,none⟩=some v:=fun j v M=>by
  unfold World.cell?;simp only [h];exact M
 refine ⟨⟨c 0 _ rfl,c 1 _ rfl,c 2 _ rfl,c 3 _ rfl,c 4 _ rfl,c 5 _ rfl⟩,fun j=>?_⟩;unfold World.frozen?;simp [h]
theorem k_Q {ns:List Nd} {i:Nat} {nd:Nd} (h:ns[i]?=some nd):ndN ns (i:Int)=nd:=by
 unfold ndN;rw [show ((i:Int)).toNat=i from rfl,List.getD_eq_getElem?_getD,h];rfl
theorem f_P {ns:List Nd} {i:Nat} {nd:Nd} (h:ns[i]?=some nd):nd∈ns:=List.mem_of_getElem? h
theorem NodesG.nil:NodesG []:=fun nd h=>by simp at h
theorem NodesG.push {ns:List Nd} {nd:Nd} (h:NodesG ns) (H:c_u nd.D nd.X):NodesG (ns++[nd]):=fun x E=>by
 rcases List.mem_append.1 E with E|E
 ·exact h x E
 ·simp at E;subst E;exact H
theorem NodesG.leaf {ns:List Nd} {d x:List Int} (h:NodesG ns) (E:RI x):NodesG (c_S ns d x):=by
 unfold c_S
 split
 ·rename_i D
  exact h.push (f_0 D.2 E)
 ·exact h
theorem NodesG.at {ns:List Nd} {i:Int} (h:NodesG ns) (H:0<=i) (I:i < (ns.length:Int)):c_u (ndN ns i).D (ndN ns i).X:=by
 obtain ⟨j,rfl⟩:∃ j:Nat,i=j:=⟨i.toNat,by omega⟩
 have E:ns[j]?=some (ns[j]'(by omega)):=List.getElem?_eq_getElem _;rw [k_Q E];exact h _ (f_P E)
theorem NodesG.do {ns:List Nd} {op a b k:Int} (h:NodesG ns):NodesG (doN ns op a b k):=by
 unfold doN
 split
 ·rename_i E
  have D:=E.1.2;refine h.push ?_;exact t_W D.1.1 D.1.2 (h.at D.2.1.1 D.2.1.2).2.2 E.2
 ·exact h
theorem j_4 (ns:List Nd) (d x:List Int) (h:ns.length<=512):(c_S ns d x).length<=512:=by
 unfold c_S
 split
 ·rename_i D
  have:=D.1;simp;omega
 ·exact h
theorem p_s (ns:List Nd) (op a b k:Int) (h:ns.length<=512):(doN ns op a b k).length<=512:=by
 unfold doN
 split
 ·rename_i D
  have:=D.1.1;simp;omega
 ·exact h
/-- One step: its error, its number, the nodes behind it. -/
def lsE (ns:List Nd) (s:Nd):Int:=if s.op=1 then f_N ns s.D s.X else doE ns s.op s.a s.b s.k
def lsR (ns:List Nd) (s:Nd):Int:=if s.op=1 then f_O ns s.D s.X else doR ns s.op s.a s.b s.k
def lsN (ns:List Nd) (s:Nd):List Nd:=if s.op=1 then c_S ns s.D s.X else doN ns s.op s.a s.b s.k
def stA (sts:List Nd) (i:Nat):Nd:=sts.getD i ⟨1,0,0,0,[],[]⟩
/-- The first i steps: an error, the nodes, the last one's number. -/
def lyF (sts ns:List Nd):Nat->Int×List Nd×Int
 | 0=>(0,ns,0)
 | i+1=>if (lyF sts ns i).1=0 then (lsE (lyF sts ns i).2.1 (stA sts i),lsN (lyF sts ns i).2.1 (stA sts i),lsR (lyF sts ns i).2.1 (stA sts i)) else lyF sts ns i
theorem j_5 (sts ns:List Nd) (i:Nat) (h:(lyF sts ns i).1≠0):∀ k,lyF sts ns (i+k)=lyF sts ns i
 | 0=>rfl
 | k+1=>by
  have e:=j_5 sts ns i h k;show (if (lyF sts ns (i+k)).1=0 then _ else lyF sts ns (i+k))=_;rw [e,if_neg h]
abbrev lyP (ns sts:List Nd):Prop:=ns.length+sts.length<=512
def lyE (ns sts:List Nd):Int:=if lyP ns sts then (lyF sts ns sts.length).1 else 2
def lyR (ns sts:List Nd):Int:=if lyP ns sts/\(lyF sts ns sts.length).1=0 then (lyF sts ns sts.length).2.2 else 0
def lyM (ns sts:List Nd):List Nd:=if lyP ns sts then (lyF sts ns sts.length).2.1 else ns
/-- Whether out and want go together; whether a class is one of out's places. -/
def e_0 (ns:List Nd) (o:Int) (y:List Int):Int:=if (0<=o/\o < (ns.length:Int))/\y.length=(ndN ns o).X.length then if (ndN ns o).D.length=1 then 0 else 4 else 1
def i_V (ns:List Nd) (o c:Int):Int:=if 0<=o/\o < (ns.length:Int) then if (ndN ns o).D.length=1/\0<=c/\c < ((ndN ns o).X.length:Int) then 0 else 4 else 1
def m_D (ns:List Nd) (o c:Int):Nat:=if i_V ns o c=0 then (ndN ns o).X.length else 0
def lfS (y:List Int):Nd:=⟨1,0,0,0,[(y.length:Int)],y⟩
def opS (op a b k:Int):Nd:=⟨op,a,b,k,[],[]⟩
def sqS (N o:Int) (y:List Int):List Nd:=[lfS y,opS 3 o N 0,opS 4 (N+1) (N+1) 0,opS 10 (N+2) 0 0]
def szS (N o:Int) (y:List Int):List Nd:=[lfS y,opS 3 o N 0,opS 11 (N+1) 0 4,opS 10 (N+2) 0 0]
def l_g (m:Nat) (a c t:Int):List Int:=(List.replicate m a).set c.toNat t
def hgS (N o:Int) (m:Nat) (c:Int):List Nd:=[lfS (l_g m 0 c (-4294967296)),lfS (l_g m 4294967296 c 0),opS 4 o N 0,opS 9 (N+2) 0 0,opS 2 o (N+3) 0,opS 2 (N+4) (N+1) 0,opS 11 (N+5) 0 1,opS 4 (N+6) (N+1) 0,opS 9 (N+7) 0 0]
/-- What a loss tells and leaves, e what was asked first. -/
def loE (e:Int) (ns sts:List Nd):Int:=if e=0 then lyE ns sts else e
def loR (e:Int) (ns sts:List Nd):Int:=if e=0 then lyR ns sts else 0
def loN (e:Int) (ns sts:List Nd):List Nd:=if e=0 then lyM ns sts else ns
theorem NodesG.ls {ns:List Nd} {s:Nd} (h:NodesG ns) (D:RI s.X):NodesG (lsN ns s):=by
 unfold lsN
 split
 ·exact h.leaf D
 ·exact h.do
theorem b_M:RI []:=fun y D=>by simp at D
/-- Nodes behind others. -/
theorem m_E {ns D:List Nd} {i:Int} (h:0<=i/\i < (ns.length:Int)):ndN (ns++D) i=ndN ns i:=by
 unfold ndN;rw [List.getD_eq_getElem?_getD,List.getD_eq_getElem?_getD,List.getElem?_append_left (by omega)]
theorem q_I (ns:List Nd) (nd:Nd):ndN (ns++[nd]) (ns.length:Int)=nd:=by
 unfold ndN;rw [List.getD_eq_getElem?_getD,Int.toNat_natCast,List.getElem?_append_right (Nat.le_refl _),Nat.sub_self];rfl
end Go.Proofs.YtcpbhhlepdgdkaaGreatDoor.Wd
