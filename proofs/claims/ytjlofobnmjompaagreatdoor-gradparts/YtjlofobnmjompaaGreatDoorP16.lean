/- Bent lines and their slopes, as numbers: -/
import Derived.Laws.EntriesVeiled
import Derived.Test.YtjlofobnmjompaaGreatDoorP11
set_option linter.unusedVariables false
set_option linter.unusedSimpArgs false
set_option maxHeartbeats 16000000
set_option maxRecDepth 16000
namespace Go.Proofs.YtjlofobnmjompaaGreatDoor.Fx
open Go.RowKit
/-- A number by 8, by 2: rounded to the even one half way. -/
def by8 (x:Int):Int:=sg (decide (x < 0)) (rq x.natAbs 8)
def by2 (x:Int):Int:=sg (decide (x < 0)) (rq x.natAbs 2)
theorem j_S (n d k:Nat) (D:0 < k) (I:0 < d):rq (n*k) (d*k)=rq n d:=by
 unfold rq;rw [Nat.mul_div_mul_right _ _ D,Nat.mul_mod_mul_right]
 have E:d*k < 2*(n % d*k)↔d < 2*(n % d):=by
  rw [<- Nat.mul_assoc];exact Nat.mul_lt_mul_right D
 have H:2*(n % d*k)=d*k↔2*(n % d)=d:=by
  rw [<- Nat.mul_assoc];exact Nat.mul_left_inj (by omega)
 simp only [E,H]
theorem q_i (n:Nat):rq n 8<=n:=by
 unfold rq
 split <;> omega
theorem q_j (n:Nat):rq n 2<=n:=by
 unfold rq
 split <;> omega
theorem m_n {x:Int} (h:InR x):InR (by8 x):=by
 unfold InR at h ⊢;have:=q_i x.natAbs;unfold by8 sg
 split
 ·rename_i D
  have:=of_decide_eq_true D;omega
 ·rename_i D
  have:¬ x < 0:=fun c=>D (decide_eq_true c);omega
theorem m_o {x:Int} (h:InR x):InR (by2 x):=by
 unfold InR at h ⊢;have:=q_j x.natAbs;unfold by2 sg
 split
 ·rename_i D
  have:=of_decide_eq_true D;omega
 ·rename_i D
  have:¬ x < 0:=fun c=>D (decide_eq_true c);omega
theorem t_z {x:Int} (h:InR x):n_t x 34359738368=by8 x:=by
 have D:=m_n h;unfold n_t;rw [if_neg (by omega)]
 have E:differ x 34359738368=decide (x < 0):=by
  unfold differ;rw [show decide ((34359738368:Int) < 0)=false from rfl];cases decide (x < 0) <;> rfl
 have H:rq (x.natAbs*4294967296) (34359738368:Int).natAbs=rq x.natAbs 8:=j_S x.natAbs 8 4294967296 (by omega) (by omega);rw [E,H];exact hold_in D.1 D.2
theorem t_A {x:Int} (h:InR x):n_t x 8589934592=by2 x:=by
 have D:=m_o h;unfold n_t;rw [if_neg (by omega)]
 have E:differ x 8589934592=decide (x < 0):=by
  unfold differ;rw [show decide ((8589934592:Int) < 0)=false from rfl];cases decide (x < 0) <;> rfl
 have H:rq (x.natAbs*4294967296) (8589934592:Int).natAbs=rq x.natAbs 2:=j_S x.natAbs 2 4294967296 (by omega) (by omega);rw [E,H];exact hold_in D.1 D.2
/-- The lines, by kind; their slopes. -/
def bendI (k x:Int):Int:=
 if k=1 then (if x < 0 then 0 else x)
 else if k=2 then (if 0 < x then x else by8 x)
 else if k=3 then (if 4294967296 < x then 4294967296 else if x < -4294967296 then -4294967296 else x)
 else if k=4 then (if x < 0 then hold (-x) else x)
 else (if hold (by2 x+2147483648) < 0 then 0 else if 4294967296 < hold (by2 x+2147483648) then 4294967296 else hold (by2 x+2147483648))
def slopeI (k x:Int):Int:=
 if k=1 then (if 0 < x then 4294967296 else 0)
 else if k=2 then (if 0 < x then 4294967296 else 536870912)
 else if k=3 then (if -4294967296 < x/\x < 4294967296 then 4294967296 else 0)
 else if k=4 then (if 0 < x then 4294967296 else if x < 0 then -4294967296 else 0)
 else (if -4294967296 < x/\x < 4294967296 then 2147483648 else 0)
theorem r_F (x:Int):bendI 1 x=if x < 0 then 0 else x:=if_pos rfl
theorem r_G (x:Int):bendI 2 x=if 0 < x then x else by8 x:=(if_neg (by decide)).trans (if_pos rfl)
theorem r_H (x:Int):bendI 3 x=if 4294967296 < x then 4294967296 else if x < -4294967296 then -4294967296 else x:=(if_neg (by decide)).trans ((if_neg (by decide)).trans (if_pos rfl))
theorem r_I (x:Int):bendI 4 x=if x < 0 then hold (-x) else x:=(if_neg (by decide)).trans ((if_neg (by decide)).trans ((if_neg (by decide)).trans (if_pos rfl)))
theorem q_k (x:Int):slopeI 1 x=if 0 < x then 4294967296 else 0:=if_pos rfl
theorem q_l (x:Int):slopeI 2 x=if 0 < x then 4294967296 else 536870912:=(if_neg (by decide)).trans (if_pos rfl)
theorem q_m (x:Int):slopeI 3 x=if -4294967296 < x/\x < 4294967296 then 4294967296 else 0:=(if_neg (by decide)).trans ((if_neg (by decide)).trans (if_pos rfl))
theorem q_n (x:Int):slopeI 4 x=if 0 < x then 4294967296 else if x < 0 then -4294967296 else 0:=(if_neg (by decide)).trans ((if_neg (by decide)).trans ((if_neg (by decide)).trans (if_pos rfl)))
theorem r_J (x:Int):bendI 5 x=if hold (by2 x+2147483648) < 0 then 0 else if 4294967296 < hold (by2 x+2147483648) then 4294967296 else hold (by2 x+2147483648):=(if_neg (by decide)).trans ((if_neg (by decide)).trans ((if_neg (by decide)).trans (if_neg (by decide))))
theorem q_o (x:Int):slopeI 5 x=if -4294967296 < x/\x < 4294967296 then 2147483648 else 0:=(if_neg (by decide)).trans ((if_neg (by decide)).trans ((if_neg (by decide)).trans (if_neg (by decide))))
theorem m_p (k x:Int):InR (slopeI k x):=by
 unfold slopeI InR
 repeat' split
 all_goals omega
theorem o_o {k x:Int} (h:InR x):InR (bendI k x):=by
 have E:=m_n h;have D:=hold_rng (-x);unfold InR at *;unfold bendI
 repeat' split
 all_goals omega
theorem bst {w D E:World} (h:Below w.heap.size w D) (H:Below D.heap.size D E):Below w.heap.size w E:=h.trans (H.mono h.size)
theorem k_H (W:World) (m:Nat):Below W.heap.size W (W.drewN m):=⟨rfl,rfl,rfl,Nat.le_refl _,fun _ _=>rfl⟩
theorem neg_any (a:Int) (E:InR a) (w:World):
  Calls Tryz.prog 187 #[.int .i64 a] w fun e D=>e = .returned (.int .i64 (hold (-a)))/\D=w:=by
 go_enter Tryz.func187,Tryz.ntmps187;go_wp2_with (go_at_call 148;refine (sub_any 0 a (by unfold InR;omega) E _).mono ?_;rintro e D ⟨rfl,rfl⟩)
 go_ret;exact ⟨by simp,rfl⟩
theorem m_q {P:Program} {x y z:Int} (h:(if x < y then y else x)=z) (D:Array TypeId) (t:TypeId) (w:World):(Builtin.max_ D t #[.int .i64 x,.int .i64 y]).run P w = .ok (.int .i64 z) w:=by
 rw [run_max_int2,<- h]
theorem p_e {P:Program} {x y z:Int} (h:(if y < x then y else x)=z) (D:Array TypeId) (t:TypeId) (w:World):(Builtin.min_ D t #[.int .i64 x,.int .i64 y]).run P w = .ok (.int .i64 z) w:=by
 rw [run_min_int2,<- h]
theorem r_K (x:Int) (I:InR x) (w:World):
  Calls Tryz.prog 166 #[.int .i64 x] w fun e H=>e = .returned (.int .i64 (bendI 1 x))/\∃ n,H=w.drewN n:=by
 obtain ⟨y,D⟩:∃ y,(if x < 0 then 0 else x)=y:=⟨_,rfl⟩
 have J:=m_q (P:=Tryz.prog) D;have E:Hid (bendI 1 x=y):=(r_F x).trans D;clear D;go_enter Tryz.func166,Tryz.ntmps166;go_wp2;go_ret;exact ⟨ret_int E.out.symm,0,rfl⟩
theorem r_L (x:Int) (D:InR x) (w:World):
  Calls Tryz.prog 168 #[.int .i64 x] w fun e E=>e = .returned (.int .i64 (bendI 2 x))/\∃ n,E=w.drewN n:=by
 rw [r_G];by_cases h:0 < x
 ·rw [if_pos h];go_enter Tryz.func168,Tryz.ntmps168;go_wp2;go_ret;exact ⟨rfl,0,rfl⟩
 ·rw [if_neg h,<- t_z D];have J:x<=0:=by omega
  have I:∀ W,Calls Tryz.prog 185 #[.int .i64 8] W fun e E=>e = .returned (.int .i64 34359738368)/\E=W:=fun W=>of_any 8 (by unfold InR;omega) W;have H:Hid (InR x):=D;clear D h;go_enter Tryz.func168,Tryz.ntmps168;go_wp2_with fail
  refine (I _).mono ?_;rintro e M ⟨rfl,rfl⟩;go_wp2_with fail
  refine (i_v x 34359738368 H.out (by unfold InR;omega) _).mono ?_;rintro e L ⟨rfl,m,rfl⟩;go_wp2;go_ret;exact ⟨rfl,m,rfl⟩
theorem r_M (x:Int) (L:InR x) (w:World):
  Calls Tryz.prog 170 #[.int .i64 x] w fun e I=>e = .returned (.int .i64 (bendI 3 x))/\∃ n,I=w.drewN n:=by
 obtain ⟨y,D⟩:∃ y,(if x < -4294967296 then -4294967296 else x)=y:=⟨_,rfl⟩
 obtain ⟨z,H⟩:∃ z,(if 4294967296 < y then 4294967296 else y)=z:=⟨_,rfl⟩
 have M:=m_q (P:=Tryz.prog) D;have J:=p_e (P:=Tryz.prog) H
 have E:Hid (bendI 3 x=z):=by
  show _=_;rw [r_H,<- H,<- D]
  repeat' split
  all_goals omega
 clear D H;go_enter Tryz.func170,Tryz.ntmps170;go_wp2;go_ret;exact ⟨ret_int E.out.symm,0,rfl⟩
theorem r_N (x:Int) (E:InR x) (w:World):
  Calls Tryz.prog 172 #[.int .i64 x] w fun e D=>e = .returned (.int .i64 (bendI 4 x))/\∃ n,D=w.drewN n:=by
 rw [r_I];by_cases h:x < 0
 ·rw [if_pos h];go_enter Tryz.func172,Tryz.ntmps172;go_wp2_with (go_at_call 187;refine (neg_any x E _).mono ?_;rintro e D ⟨rfl,rfl⟩)
  go_ret;exact ⟨rfl,0,rfl⟩
 ·rw [if_neg h];have H:0<=x:=by omega
  go_enter Tryz.func172,Tryz.ntmps172;go_wp2;go_ret;exact ⟨rfl,0,rfl⟩
theorem r_O (x:Int) (I:InR x) (w:World):
  Calls Tryz.prog 174 #[.int .i64 x] w fun e D=>e = .returned (.int .i64 (bendI 5 x))/\∃ n,D=w.drewN n:=by
 obtain ⟨a,H⟩:∃ a,by2 x=a:=⟨_,rfl⟩
 have U:InR a:=by rw [<- H];exact m_o I
 obtain ⟨b,J⟩:∃ b,hold (a+2147483648)=b:=⟨_,rfl⟩
 obtain ⟨y,M⟩:∃ y,(if b < 0 then 0 else b)=y:=⟨_,rfl⟩
 obtain ⟨z,O⟩:∃ z,(if 4294967296 < y then 4294967296 else y)=z:=⟨_,rfl⟩
 have k1:=m_q (P:=Tryz.prog) M;have k2:=p_e (P:=Tryz.prog) O;have V:∀ W,Calls Tryz.prog 185 #[.int .i64 2] W fun e D=>e = .returned (.int .i64 8589934592)/\D=W:=fun W=>of_any 2 (by unfold InR;omega) W;have L:=i_v x 8589934592 I (by unfold InR;omega) w;rw [t_A I,H] at L;have R:∀ W,Calls Tryz.prog 118 #[.int .i64 a,.int .i64 2147483648] W fun e D=>e = .returned (.int .i64 b)/\D=W:=fun W=>by rw [<- J];exact add_any a 2147483648 U (by unfold InR;omega) W
 have E:Hid (bendI 5 x=z):=by
  show _=_;rw [r_J,H,J,<- O,<- M]
  repeat' split
  all_goals omega
 clear M O H J I U;go_enter Tryz.func174,Tryz.ntmps174;go_wp2_with fail
 refine (V _).mono ?_;rintro e w1 ⟨rfl,rfl⟩;go_wp2_with fail
 refine L.mono ?_;rintro e w2 ⟨rfl,m,rfl⟩;go_wp2_with fail
 refine (R _).mono ?_;rintro e w3 ⟨rfl,rfl⟩;clear V L R;go_wp2;go_ret;exact ⟨ret_int E.out.symm,m,rfl⟩
theorem d_z (x:Int) (b:Bool) (hb:decide (-4294967296 < x/\x < 4294967296)=b) (w:World):
  Calls Tryz.prog 186 #[.int .i64 x] w fun e J=>e = .returned (.bool b)/\J=w:=by
 by_cases E:-4294967296 < x
 ·by_cases D:x < 4294967296
  ·rw [decide_eq_true ⟨E,D⟩] at hb;subst hb;go_enter Tryz.func186,Tryz.ntmps186;go_wp2;go_ret;exact ⟨rfl,rfl⟩
  ·rw [decide_eq_false fun h=>D h.2] at hb;subst hb;have H:4294967296<=x:=by omega
   go_enter Tryz.func186,Tryz.ntmps186;go_wp2;go_ret;exact ⟨rfl,rfl⟩
 ·rw [decide_eq_false fun h=>E h.1] at hb;subst hb;have I:x<=-4294967296:=by omega
  go_enter Tryz.func186,Tryz.ntmps186;go_wp2;go_ret;exact ⟨rfl,rfl⟩
theorem r_P (x:Int) (w:World):
  Calls Tryz.prog 167 #[.int .i64 x] w fun e D=>e = .returned (.int .i64 (slopeI 1 x))/\D=w:=by
 rw [q_k];by_cases h:0 < x
 ·rw [if_pos h];go_enter Tryz.func167,Tryz.ntmps167;go_wp2;go_ret;exact ⟨rfl,rfl⟩
 ·rw [if_neg h];have E:x<=0:=by omega
  go_enter Tryz.func167,Tryz.ntmps167;go_wp2;go_ret;exact ⟨rfl,rfl⟩
theorem r_Q (x:Int) (w:World):
  Calls Tryz.prog 169 #[.int .i64 x] w fun e D=>e = .returned (.int .i64 (slopeI 2 x))/\D=w:=by
 rw [q_l];by_cases h:0 < x
 ·rw [if_pos h];go_enter Tryz.func169,Tryz.ntmps169;go_wp2;go_ret;exact ⟨rfl,rfl⟩
 ·rw [if_neg h];have E:x<=0:=by omega
  go_enter Tryz.func169,Tryz.ntmps169;go_wp2;go_ret;exact ⟨rfl,rfl⟩
theorem r_R (x:Int) (w:World):
  Calls Tryz.prog 171 #[.int .i64 x] w fun e D=>e = .returned (.int .i64 (slopeI 3 x))/\D=w:=by
 rw [q_m];by_cases h:-4294967296 < x/\x < 4294967296
 ·rw [if_pos h];have c:=d_z x true (decide_eq_true h);clear h;go_enter Tryz.func171,Tryz.ntmps171;go_wp2_with (go_at_call 186;refine (c _).mono ?_;rintro e D ⟨rfl,rfl⟩)
  go_ret;exact ⟨rfl,rfl⟩
 ·rw [if_neg h];have c:=d_z x false (decide_eq_false h);clear h;go_enter Tryz.func171,Tryz.ntmps171;go_wp2_with (go_at_call 186;refine (c _).mono ?_;rintro e D ⟨rfl,rfl⟩)
  go_ret;exact ⟨rfl,rfl⟩
theorem r_S (x:Int) (w:World):
  Calls Tryz.prog 173 #[.int .i64 x] w fun e H=>e = .returned (.int .i64 (slopeI 4 x))/\H=w:=by
 rw [q_n];by_cases h:0 < x
 ·rw [if_pos h];go_enter Tryz.func173,Tryz.ntmps173;go_wp2;go_ret;exact ⟨rfl,rfl⟩
 ·rw [if_neg h];have I:x<=0:=by omega
  by_cases D:x < 0
  ·rw [if_pos D];go_enter Tryz.func173,Tryz.ntmps173;go_wp2;go_ret;exact ⟨rfl,rfl⟩
  ·rw [if_neg D];have E:0<=x:=by omega
   go_enter Tryz.func173,Tryz.ntmps173;go_wp2;go_ret;exact ⟨rfl,rfl⟩
theorem r_T (x:Int) (w:World):
  Calls Tryz.prog 175 #[.int .i64 x] w fun e D=>e = .returned (.int .i64 (slopeI 5 x))/\D=w:=by
 rw [q_o];by_cases h:-4294967296 < x/\x < 4294967296
 ·rw [if_pos h];have c:=d_z x true (decide_eq_true h);clear h;go_enter Tryz.func175,Tryz.ntmps175;go_wp2_with (go_at_call 186;refine (c _).mono ?_;rintro e D ⟨rfl,rfl⟩)
  go_ret;exact ⟨rfl,rfl⟩
 ·rw [if_neg h];have c:=d_z x false (decide_eq_false h);clear h;go_enter Tryz.func175,Tryz.ntmps175;go_wp2_with (go_at_call 186;refine (c _).mono ?_;rintro e D ⟨rfl,rfl⟩)
  go_ret;exact ⟨rfl,rfl⟩
theorem s_V (w:World):
  Calls Tryz.prog 136 #[.int .i64 1] w fun e D=>e = .returned (.tuple #[.agg #[.func (.func 166) #[] #[],.func (.func 167) #[] #[]],.bool true])/\Below w.heap.size w D:=by
 go_enter Tryz.func136,Tryz.ntmps136;go_wp2;exact bodyPost_ret (v:=.tuple #[.agg #[.func (.func 166) #[] #[],.func (.func 167) #[] #[]],.bool true]) (by simp [results,Tryz.results136,go_sem]) rfl ⟨rfl,by go_grown⟩
theorem s_W (w:World):
  Calls Tryz.prog 136 #[.int .i64 2] w fun e D=>e = .returned (.tuple #[.agg #[.func (.func 168) #[] #[],.func (.func 169) #[] #[]],.bool true])/\Below w.heap.size w D:=by
 go_enter Tryz.func136,Tryz.ntmps136;go_wp2;exact bodyPost_ret (v:=.tuple #[.agg #[.func (.func 168) #[] #[],.func (.func 169) #[] #[]],.bool true]) (by simp [results,Tryz.results136,go_sem]) rfl ⟨rfl,by go_grown⟩
theorem s_X (w:World):
  Calls Tryz.prog 136 #[.int .i64 3] w fun e D=>e = .returned (.tuple #[.agg #[.func (.func 170) #[] #[],.func (.func 171) #[] #[]],.bool true])/\Below w.heap.size w D:=by
 go_enter Tryz.func136,Tryz.ntmps136;go_wp2;exact bodyPost_ret (v:=.tuple #[.agg #[.func (.func 170) #[] #[],.func (.func 171) #[] #[]],.bool true]) (by simp [results,Tryz.results136,go_sem]) rfl ⟨rfl,by go_grown⟩
theorem s_Y (w:World):
  Calls Tryz.prog 136 #[.int .i64 4] w fun e D=>e = .returned (.tuple #[.agg #[.func (.func 172) #[] #[],.func (.func 173) #[] #[]],.bool true])/\Below w.heap.size w D:=by
 go_enter Tryz.func136,Tryz.ntmps136;go_wp2;exact bodyPost_ret (v:=.tuple #[.agg #[.func (.func 172) #[] #[],.func (.func 173) #[] #[]],.bool true]) (by simp [results,Tryz.results136,go_sem]) rfl ⟨rfl,by go_grown⟩
theorem s_Z (w:World):
  Calls Tryz.prog 136 #[.int .i64 5] w fun e D=>e = .returned (.tuple #[.agg #[.func (.func 174) #[] #[],.func (.func 175) #[] #[]],.bool true])/\Below w.heap.size w D:=by
 go_enter Tryz.func136,Tryz.ntmps136;go_wp2;exact bodyPost_ret (v:=.tuple #[.agg #[.func (.func 174) #[] #[],.func (.func 175) #[] #[]],.bool true]) (by simp [results,Tryz.results136,go_sem]) rfl ⟨rfl,by go_grown⟩
theorem q_p (k:Int) (D:k < 1∨5 < k) (w:World):
  Calls Tryz.prog 136 #[.int .i64 k] w fun e E=>e = .returned (.tuple #[.agg #[.nilFunc,.nilFunc],.bool false])/\Below w.heap.size w E:=by
 have M:(k==1)=false:=by simp;omega
 have L:(k==2)=false:=by simp;omega
 have J:(k==3)=false:=by simp;omega
 have H:(k==4)=false:=by simp;omega
 have I:(k==5)=false:=by simp;omega
 clear D;go_enter Tryz.func136,Tryz.ntmps136;go_wp2;exact bodyPost_ret (v:=.tuple #[.agg #[.nilFunc,.nilFunc],.bool false]) (by simp [results,Tryz.results136,go_sem]) rfl ⟨rfl,by go_grown⟩
theorem j_T (k:Int) (I:1<=k/\k<=5):∃ E H:FuncId,(∀ args W,(callFunc E args).run Tryz.prog W = .ok (.enter E args) W)/\(∀ args W,(callFunc H args).run Tryz.prog W = .ok (.enter H args) W)
  /\ (∀ x,InR x->∀ W,Calls Tryz.prog E #[.int .i64 x] W fun e D=>e = .returned (.int .i64 (bendI k x))/\∃ n,D=W.drewN n)/\(∀ x W,Calls Tryz.prog H #[.int .i64 x] W fun e D=>e = .returned (.int .i64 (slopeI k x))/\D=W)
  /\ ∀ w,Calls Tryz.prog 136 #[.int .i64 k] w fun e D=>e = .returned (.tuple #[.agg #[.func (.func E) #[] #[],.func (.func H) #[] #[]],.bool true])/\Below w.heap.size w D:=by
 have:k=1∨k=2∨k=3∨k=4∨k=5:=by omega
 rcases this with rfl|rfl|rfl|rfl|rfl
 ·exact ⟨_,_,fun args W=>by simp [go_sem],fun args W=>by simp [go_sem],r_K,r_P,s_V⟩
 ·exact ⟨_,_,fun args W=>by simp [go_sem],fun args W=>by simp [go_sem],r_L,r_Q,s_W⟩
 ·exact ⟨_,_,fun args W=>by simp [go_sem],fun args W=>by simp [go_sem],r_M,r_R,s_X⟩
 ·exact ⟨_,_,fun args W=>by simp [go_sem],fun args W=>by simp [go_sem],r_N,r_S,s_Y⟩
 ·exact ⟨_,_,fun args W=>by simp [go_sem],fun args W=>by simp [go_sem],r_O,r_T,s_Z⟩
end Go.Proofs.YtjlofobnmjompaaGreatDoor.Fx
namespace Go.Proofs.YtjlofobnmjompaaGreatDoor.Wd
open Go.RowKit Fx
def g_Z (k:Int) (d x:List Int):Int:=if (1<=k/\k<=5)/\isP d x then 0 else 1
def k_I (k:Int) (d x:List Int):List Int:=if (1<=k/\k<=5)/\isP d x then d else []
def m_r (k:Int) (d x:List Int):List Int:=if (1<=k/\k<=5)/\isP d x then x.map fun y=>Fx.bendI k y else []
theorem r_U (f:Int->Int) (x:List Int) (k:Nat) (h:k < x.length):(x.map f).getD k 0=f (x.getD k 0):=by
 rw [List.getD_eq_getElem?_getD,List.getElem?_map,List.getElem?_eq_getElem h,a_r x k 0 h];rfl
theorem o_p (k:Int) (p p2:Option Addr) (n c E c2:Nat) (d x:List Int) (hd:RI d) (hx:RI x) (w:World) (h1:Nums .i64 w (.slice p n c) d) (h2:Nums .i64 w (.slice p2 E c2) x):
  Calls Tryz.prog 126 #[.int .i64 k,.agg #[.slice p n c,.slice p2 E c2]] w fun e w'=>∃ v',e = .returned (.tuple #[v',.int .i64 (g_Z k d x)])/\TRes w' w.heap.size v' (k_I k d x) (m_r k d x)/\Below w.heap.size w w':=by
 have cA:=fun W (hW:Below w.heap.size w W)=>a_C _ _ d x hd W (h1.up hW) (h2.up hW);unfold g_Z k_I m_r;by_cases hk:1<=k/\k<=5
 ·obtain ⟨K1,K2,e1,e2,f1,f2,cl⟩:=j_T k hk;by_cases hp:isP d x
  ·rw [decide_eq_true hp] at cA;rw [if_pos ⟨hk,hp⟩,if_pos ⟨hk,hp⟩,if_pos ⟨hk,hp⟩];obtain ⟨V,eV⟩:∃ V,(x.map fun y=>Fx.bendI k y)=V:=⟨_,rfl⟩
   rw [eV];have HN:Hid (Nums .i64 w (.slice p n c) d/\Nums .i64 w (.slice p2 E c2) x):=⟨h1,h2⟩
   obtain ⟨_,_,_,e4,HX⟩:=h2.lst;cases e4;have aq:x.length<=4096:=by rw [hp.2];exact hp.1.2.2
   rw [HX.out.1] at aq;have aw:(E:Int)<=4096:=by omega
   have HV:Hid ((x.map fun y=>Fx.bendI k y)=V/\V.length=E/\isP d x/\RI x/\x.length=E):=⟨eV,by rw [<- eV,List.length_map];exact HX.out.1,hp,hx,HX.out.1⟩
   have aC:Hid (∀ x,InR x->∀ W,Calls Tryz.prog K1 #[.int .i64 x] W fun e w'=>e = .returned (.int .i64 (bendI k x))/\∃ n,w'=W.drewN n):=f1;clear eV h1 h2 hd hx hp hk f1 f2 e2;go_enter Tryz.func126,Tryz.ntmps126;go_wp2_with fail
   generalize D:World.alloc _ _=W0;have O:=b_W (w:=w) D (by go_grown);have XA:Hid (Cel W0 w.heap.size (.slice p n c) (.slice p2 E c2)):=a_F D (by simp [go_sem]);have XR:Hid (Cel W0 (w.heap.size+1) (.slice none 0 0) (.slice none 0 0)):=a_F D (by simp [go_sem]);clear D;refine (cl W0).mono ?_;rintro e w1 ⟨rfl,J⟩;have H:=a_N (a_c O.out J) J;clear J cl;obtain ⟨a0,a1,_,_⟩:=XA.out.up H.out.2;have z0:=a_a a0;go_wp2_with fail
   generalize U:World.alloc _ _=W2;have B2:Below w1.heap.size w1 W2:=by rw [<- U];exact a_b w1 _
   have XL:Hid (Cel W2 w1.heap.size (.func (.func K1) #[] #[]) (.func (.func K2) #[] #[])):=by show Cel _ _ _ _;unfold Cel;rw [<- U];simp [go_sem]
   have R:=a_N (a_c H.out.1 B2) (a_c H.out.2 B2);have HL:Hid (W0.heap.size<=w1.heap.size):=H.out.2.size;obtain ⟨bl,ag⟩:∃ bl,w1.heap.size=bl:=⟨_,rfl⟩
   rw [ag] at XL HL ⊢;clear U B2;refine (cA W2 R.out.1).mono ?_;rintro e w3 ⟨rfl,M⟩;have I:Hid (Below w.heap.size w w3/\Below W0.heap.size W0 w3/\Below W2.heap.size W2 w3):=⟨a_c R.out.1 M,a_c R.out.2 M,M⟩
   clear M cA a0 a1 z0;obtain ⟨a0,a1,_,_⟩:=XA.out.up I.out.2.1;go_wp2_with (at_make;refine a_y k_w (by decide) _ rfl (.tmp 26) (.tmp 26) rfl .i64 .i64 E E E rfl rfl rfl rfl (by omega) w.heap.size w I.out.1.size I.out.1 ?_;intro w4 aj B4 av;clear av;have aA:=(XA.out.up (a_c I.out.2.1 B4));obtain ⟨a2,a3,_,_⟩:=aA)
   obtain ⟨g,hg⟩:∃ g,w3.heap.size=g:=⟨_,rfl⟩
   have ac:Hid (Below w.heap.size w w4/\Below W0.heap.size W0 w4/\Below W2.heap.size W2 w4):=⟨a_c I.out.1 B4,a_c I.out.2.1 B4,a_c I.out.2.2 B4⟩
   rw [hg] at aj ⊢;have hz:=a_a XR.out.1;have Hg:Hid (W0.heap.size<=g/\w.heap.size+1 < W0.heap.size/\bl < g):=⟨by rw [<- hg];exact I.out.2.1.size,hz,by rw [<- hg];exact Nat.lt_of_lt_of_le (a_a XL.out.1) I.out.2.2.size⟩
   have aB:Hid (OwnK .i64 23 w4 g (.slice (some ⟨g,0,none⟩) E E) (b_I V 0)):=by
    show OwnK _ _ _ _ _ _;rw [a_1,HV.out.2.1];exact aj.out
   clear a0 a1 a2 a3 aj B4 hg hz
   go_loopg [31] E (fun gg i wr=>∃ (k:Nat),k<=E/\gg=E - k/\i = .int .i64 (k:Int)/\Hid (OwnK .i64 23 wr g (.slice (some ⟨g,0,none⟩) E E) (b_I V k))/\Hid (Below w.heap.size w wr/\Stay g w4 wr))
   case atStart=>exact ⟨0,by omega,by omega,by first|rfl|simp,aB,ac.out.1,Stay.refl _ _⟩
   case round=>
    obtain ⟨j,hj,hg,rfl,au,L⟩:=hrel;obtain ⟨R1,az⟩:∃ R1:World,R1=wr:=⟨_,rfl⟩
    subst az;by_cases aa:j < E
    ·have aE:(j:Int) < (E:Int):=by omega
     obtain ⟨q,o,rfl,ar⟩:=HX.out.2 j aa;have ap:=a_d ar L.out.1;have rx:=HV.out.2.2.2.1.at j (by rw [HV.out.2.2.2.2];exact aa);obtain ⟨X,eX⟩:∃ X,x.getD j 0=X:=⟨_,rfl⟩
     rw [eX] at ap rx;obtain ⟨Z,eZ⟩:∃ Z,Fx.bendI k X=Z:=⟨_,rfl⟩
     have HZ:Hid (V.getD j 0=Z):=by
      show _=_;rw [<- HV.out.1,r_U _ _ _ (by rw [HV.out.2.2.2.2];exact aa),eX,eZ]
     have cz:∀ W,Calls Tryz.prog K1 #[.int .i64 X] W fun e w'=>e = .returned (.int .i64 Z)/\∃ n,w'=W.drewN n:=fun W=>by rw [<- eZ];exact aC.out X rx W
     have ak:bl≠g:=by have:=Hg.out;omega
     obtain ⟨l0,l1,_,_⟩:=(XL.out.up ac.out.2.2).stay L.out.2 ak;have ax:w.heap.size<=g:=by have:=Hg.out;have:=O.out.size;omega
     clear eX eZ ar ak;go_wp2_with fail
     refine (cz _).mono ?_;rintro e w5 ⟨rfl,m,rfl⟩;have ah:Hid (OwnK .i64 23 (R1.drewN m) g (.slice (some ⟨g,0,none⟩) E E) (b_I V j)):=au.out.up (k_H _ _);have ai:Hid (Below w.heap.size w (R1.drewN m)/\Stay g w4 (R1.drewN m)):=⟨a_c L.out.1 (k_H _ _),L.out.2.up (k_H _ _)⟩
     obtain ⟨R2,an⟩:∃ R2:World,R1.drewN m=R2:=⟨_,rfl⟩
     rw [an] at ah ai ⊢;obtain ⟨aD,aF⟩:=ah.out.cell (by rw [a_A];exact HV.out.2.1) j aa
     have H5:Hid (OwnK .i64 23 (R2.setCell ⟨g,j,none⟩ (.int .i64 Z)) g (.slice (some ⟨g,0,none⟩) E E) (b_I V (j+1))):=by
      have:=ah.out.store (by rw [a_A];exact HV.out.2.1) j Z;rw [<- HZ.out,b_r V j (by rw [HV.out.2.1];exact aa)] at this;rw [<- HZ.out];exact this
     have H6:Hid (Below w.heap.size w (R2.setCell ⟨g,j,none⟩ (.int .i64 Z))/\Stay g w4 (R2.setCell ⟨g,j,none⟩ (.int .i64 Z))):=⟨ai.out.1.setCell (p:=⟨g,j,none⟩) ax _,ai.out.2.set _ _⟩
     clear cz l0 l1 ap an;go_wp2;go_roundg (E - (j+1))
     case measure=>omega
     case rel=>exact ⟨j+1,by omega,rfl,by first|rfl|simp,H5,H6⟩
    ·obtain rfl:j=E:=by omega
     have ad:w.heap.size≠g:=by have:=Hg.out;omega
     have ae:w.heap.size+1≠g:=by have:=Hg.out;omega
     obtain ⟨a0,a1,_,_⟩:=(XA.out.up ac.out.2.1).stay L.out.2 ad;have am:=(XR.out.up ac.out.2.1).stay L.out.2 ae;have ab:=au.out;rw [<- HV.out.2.1,b_g,HV.out.2.1] at ab;have ao:Hid (OwnK .i64 23 R1 g (.slice (some ⟨g,0,none⟩) j j) V):=ab;have cc:=b_i _ d (by have:=HV.out.2.2.1.1.1;rw [a_R] at this;omega) R1 (HN.out.1.up L.out.1);have ay:Hid (Cel R1 (w.heap.size+1) (.slice none 0 0) (.slice none 0 0)):=am;clear ab am ad ae;go_wp2_with fail
     refine cc.mono ?_;rintro e w6 ⟨v6,rfl,h6,af⟩;obtain ⟨p6,n6,c6,rfl,_⟩:=h6.nums.lst
     have HF:Hid (TRes (set2 w6 (w.heap.size+1) (.slice p6 n6 c6) (.slice (some ⟨g,0,none⟩) j j)) w.heap.size (.agg #[.slice p6 n6 c6,.slice (some ⟨g,0,none⟩) j j]) d V/\Below w.heap.size w (set2 w6 (w.heap.size+1) (.slice p6 n6 c6) (.slice (some ⟨g,0,none⟩) j j))):=by
      have hs:g<=R1.heap.size:=Nat.le_of_lt ao.out.size;exact ⟨(TRes.set (h6.low (Nat.le_trans Hg.out.1 hs)) ((ao.out.up af).low Hg.out.1) Hg.out.2.1).low O.out.size,a_k (a_c L.out.1 af) _ (by omega) _ _⟩
     clear cc h6 a0 a1;have xr:=(ay.out.up af)
     have cf:=xr.set (.slice p6 n6 c6) (.slice (some ⟨g,0,none⟩) j j);obtain ⟨r0,r1,r2,r3⟩:=xr;obtain ⟨y0,y1,_,_⟩:=cf;go_wp2;exact bodyPost_ret (v:=.tuple #[.agg #[.slice p6 n6 c6,.slice (some ⟨g,0,none⟩) j j],.int .i64 0]) (by simp [results,Tryz.results126,go_sem,y0,y1]) rfl ⟨_,rfl,HF.out⟩
  ·rw [decide_eq_false hp] at cA;rw [if_neg fun h=>hp h.2,if_neg fun h=>hp h.2,if_neg fun h=>hp h.2];clear h1 h2 hd hx hp hk f1 f2 e1 e2;go_enter Tryz.func126,Tryz.ntmps126;go_wp2_with fail
   generalize D:World.alloc _ _=W0;have O:=b_W (w:=w) D (by go_grown);have XA:Hid (Cel W0 w.heap.size (.slice p n c) (.slice p2 E c2)):=a_F D (by simp [go_sem]);have XR:Hid (Cel W0 (w.heap.size+1) (.slice none 0 0) (.slice none 0 0)):=a_F D (by simp [go_sem]);clear D;refine (cl W0).mono ?_;rintro e w1 ⟨rfl,J⟩;have H:=a_N (a_c O.out J) J;clear J cl;obtain ⟨a0,a1,_,_⟩:=XA.out.up H.out.2;have z0:=a_a a0;go_wp2_with fail
   generalize U:World.alloc _ _=W2;have B2:Below w1.heap.size w1 W2:=by rw [<- U];exact a_b w1 _
   have XL:Hid (Cel W2 w1.heap.size (.func (.func K1) #[] #[]) (.func (.func K2) #[] #[])):=by show Cel _ _ _ _;unfold Cel;rw [<- U];simp [go_sem]
   have R:=a_N (a_c H.out.1 B2) (a_c H.out.2 B2);have HL:Hid (W0.heap.size<=w1.heap.size):=H.out.2.size;obtain ⟨bl,ag⟩:∃ bl,w1.heap.size=bl:=⟨_,rfl⟩
   rw [ag] at XL HL ⊢;clear U B2;refine (cA W2 R.out.1).mono ?_;rintro e w3 ⟨rfl,M⟩;have I:=a_N (a_c R.out.1 M) (a_c R.out.2 M);clear M cA a0 a1 z0;have xr:=(XR.out.up (I.out).2)
   have BF:=a_k ((I.out).1) (w.heap.size+1) (by omega) (.slice none 0 0) (.slice none 0 0);have cf:=xr.set (.slice none 0 0) (.slice none 0 0);obtain ⟨r0,r1,r2,r3⟩:=xr;obtain ⟨y0,y1,_,_⟩:=cf;go_wp2;exact bodyPost_ret (v:=.tuple #[.agg #[.slice none 0 0,.slice none 0 0],.int .i64 1]) (by simp [results,Tryz.results126,go_sem,y0,y1]) rfl ⟨_,rfl,TRes.none _ _,BF⟩
 ·have cl:=q_p k (by omega);rw [if_neg fun h=>hk h.1,if_neg fun h=>hk h.1,if_neg fun h=>hk h.1];clear h1 h2 hd hx hk cA;go_enter Tryz.func126,Tryz.ntmps126;go_wp2_with fail
  generalize D:World.alloc _ _=W0;have O:=b_W (w:=w) D (by go_grown);have XA:Hid (Cel W0 w.heap.size (.slice p n c) (.slice p2 E c2)):=a_F D (by simp [go_sem]);have XR:Hid (Cel W0 (w.heap.size+1) (.slice none 0 0) (.slice none 0 0)):=a_F D (by simp [go_sem]);clear D;refine (cl W0).mono ?_;rintro e w1 ⟨rfl,J⟩;have H:=a_N (a_c O.out J) J;clear J cl;have xr:=(XR.out.up H.out.2)
  have aG:=a_a xr.1;have BF:=a_c (a_k H.out.1 (w.heap.size+1) (by omega) (.slice none 0 0) (.slice none 0 0)) (a_b _ (.cells #[.nilFunc,.nilFunc] 200));have cf:=(xr.set (.slice none 0 0) (.slice none 0 0)).up (a_b _ (.cells #[.nilFunc,.nilFunc] 200));obtain ⟨r0,r1,r2,r3⟩:=xr;obtain ⟨y0,y1,_,_⟩:=cf;go_wp2;exact bodyPost_ret (v:=.tuple #[.agg #[.slice none 0 0,.slice none 0 0],.int .i64 1]) (by simp [results,Tryz.results126,go_sem,y0,y1]) rfl ⟨_,rfl,TRes.none _ _,BF⟩
end Go.Proofs.YtjlofobnmjompaaGreatDoor.Wd
