/- Bent lines and their slopes, as numbers: they rise, they stay within bounds, bent again they stay; between two points of one piece a line rises by its slope. Nothing of the program is named here. · The lines of act: what each makes of a number and how steep it is there; lineOf, Of and Slope hand these back. · act.All: what it hands back. -/
import Derived.Test.YtjlofobnmjompaaGreatDoorT01
import Derived.Test.YtjlofobnmjompaaGreatDoorT07
import Derived.Test.YtjlofobnmjompaaGreatDoorT00
import Derived.Laws.EntriesVeiled
import Derived.Test.YtjlofobnmjompaaGreatDoorT11
set_option linter.unusedVariables false
set_option linter.unusedSimpArgs false
set_option maxHeartbeats 16000000
set_option maxRecDepth 16000
namespace Go.Proofs.YtjlofobnmjompaaGreatDoor.Fx
open Go.RowKit
/-- A number by 8, by 2: rounded to the even one half way. -/
def by8 (x:Int):Int:=sg (decide (x < 0)) (rq x.natAbs 8)
def by2 (x:Int):Int:=sg (decide (x < 0)) (rq x.natAbs 2)
theorem j_R (n d k:Nat) (D:0 < k) (J:0 < d):rq (n*k) (d*k)=rq n d:=by
 unfold rq;rw [Nat.mul_div_mul_right _ _ D,Nat.mul_mod_mul_right]
 have H:d*k < 2*(n % d*k)↔d < 2*(n % d):=by
  rw [<- Nat.mul_assoc];exact Nat.mul_lt_mul_right D
 have I:2*(n % d*k)=d*k↔2*(n % d)=d:=by
  rw [<- Nat.mul_assoc];exact Nat.mul_left_inj (by omega)
 simp only [H,I]
theorem q_d (n:Nat):rq n 8<=n:=by
 unfold rq
 split <;> omega
theorem q_e (n:Nat):rq n 2<=n:=by
 unfold rq
 split <;> omega
theorem m_h {x:Int} (h:InR x):InR (by8 x):=by
 unfold InR at h ⊢;have:=q_d x.natAbs;unfold by8 sg
 split
 ·rename_i D
  have:=of_decide_eq_true D;omega
 ·rename_i D
  have:¬ x < 0:=fun c=>D (decide_eq_true c);omega
theorem m_i {x:Int} (h:InR x):InR (by2 x):=by
 unfold InR at h ⊢;have:=q_e x.natAbs;unfold by2 sg
 split
 ·rename_i D
  have:=of_decide_eq_true D;omega
 ·rename_i D
  have:¬ x < 0:=fun c=>D (decide_eq_true c);omega
theorem t_E {x:Int} (h:InR x):n_i x 34359738368=by8 x:=by
 have D:=m_h h;unfold n_i;rw [if_neg (by omega)]
 have H:differ x 34359738368=decide (x < 0):=by
  unfold differ;rw [show decide ((34359738368:Int) < 0)=false from rfl];cases decide (x < 0) <;> rfl
 have I:rq (x.natAbs*4294967296) (34359738368:Int).natAbs=rq x.natAbs 8:=j_R x.natAbs 8 4294967296 (by omega) (by omega);rw [H,I];exact hold_in D.1 D.2
theorem t_F {x:Int} (h:InR x):n_i x 8589934592=by2 x:=by
 have D:=m_i h;unfold n_i;rw [if_neg (by omega)]
 have H:differ x 8589934592=decide (x < 0):=by
  unfold differ;rw [show decide ((8589934592:Int) < 0)=false from rfl];cases decide (x < 0) <;> rfl
 have I:rq (x.natAbs*4294967296) (8589934592:Int).natAbs=rq x.natAbs 2:=j_R x.natAbs 2 4294967296 (by omega) (by omega);rw [H,I];exact hold_in D.1 D.2
/-- The lines, by kind; their slopes. -/
def bendI (k x:Int):Int:=
 if k=1 then (if x < 0 then 0 else x)
 else if k=2 then (if 0 < x then x else by8 x)
 else if k=3 then (if 4294967296 < x then 4294967296 else if x < -4294967296 then -4294967296 else x)
 else if k=4 then (if x < 0 then hold (-x) else x)
 else (if hold (by2 x+2147483648) < 0 then 0 else if 4294967296 < hold (by2 x+2147483648) then 4294967296 else hold (by2 x+2147483648))
def slopeI (k x:Int):Int:=
 if k=1 then (if 0 < x then 4294967296 else 0)
 else if k=2 then (if 0 < x then 4294967296 else 536870912)
 else if k=3 then (if -4294967296 < x/\x < 4294967296 then 4294967296 else 0)
 else if k=4 then (if 0 < x then 4294967296 else if x < 0 then -4294967296 else 0)
 else (if -4294967296 < x/\x < 4294967296 then 2147483648 else 0)
theorem r_C (x:Int):bendI 1 x=if x < 0 then 0 else x:=if_pos rfl
theorem r_D (x:Int):bendI 2 x=if 0 < x then x else by8 x:=(if_neg (by decide)).trans (if_pos rfl)
theorem r_E (x:Int):bendI 3 x=if 4294967296 < x then 4294967296 else if x < -4294967296 then -4294967296 else x:=(if_neg (by decide)).trans ((if_neg (by decide)).trans (if_pos rfl))
theorem r_F (x:Int):bendI 4 x=if x < 0 then hold (-x) else x:=(if_neg (by decide)).trans ((if_neg (by decide)).trans ((if_neg (by decide)).trans (if_pos rfl)))
theorem q_f (x:Int):slopeI 1 x=if 0 < x then 4294967296 else 0:=if_pos rfl
theorem q_g (x:Int):slopeI 2 x=if 0 < x then 4294967296 else 536870912:=(if_neg (by decide)).trans (if_pos rfl)
theorem q_h (x:Int):slopeI 3 x=if -4294967296 < x/\x < 4294967296 then 4294967296 else 0:=(if_neg (by decide)).trans ((if_neg (by decide)).trans (if_pos rfl))
theorem q_i (x:Int):slopeI 4 x=if 0 < x then 4294967296 else if x < 0 then -4294967296 else 0:=(if_neg (by decide)).trans ((if_neg (by decide)).trans ((if_neg (by decide)).trans (if_pos rfl)))
theorem r_G (x:Int):bendI 5 x=if hold (by2 x+2147483648) < 0 then 0 else if 4294967296 < hold (by2 x+2147483648) then 4294967296 else hold (by2 x+2147483648):=(if_neg (by decide)).trans ((if_neg (by decide)).trans ((if_neg (by decide)).trans (if_neg (by decide))))
theorem q_j (x:Int):slopeI 5 x=if -4294967296 < x/\x < 4294967296 then 2147483648 else 0:=(if_neg (by decide)).trans ((if_neg (by decide)).trans ((if_neg (by decide)).trans (if_neg (by decide))))
theorem m_j (k x:Int):InR (slopeI k x):=by
 unfold slopeI InR
 repeat' split
 all_goals omega
theorem o_e {k x:Int} (h:InR x):InR (bendI k x):=by
 have H:=m_h h;have D:=hold_rng (-x);unfold InR at *;unfold bendI
 repeat' split
 all_goals omega
theorem bst {w D H:World} (h:Below w.heap.size w D) (I:Below D.heap.size D H):Below w.heap.size w H:=h.trans (I.mono h.size)
theorem k_G (W:World) (m:Nat):Below W.heap.size W (W.drewN m):=⟨rfl,rfl,rfl,Nat.le_refl _,fun _ _=>rfl⟩
theorem neg_any (a:Int) (H:InR a) (w:World):
  Calls Tryz.prog 187 #[.int .i64 a] w fun e D=>e = .returned (.int .i64 (hold (-a)))/\D=w:=by
 go_enter Tryz.func187,Tryz.ntmps187;go_wp2_with (go_at_call 148;refine (sub_any 0 a (by unfold InR;omega) H _).mono ?_;rintro e D ⟨rfl,rfl⟩)
 go_ret;exact ⟨by simp,rfl⟩
theorem m_k {P:Program} {x y z:Int} (h:(if x < y then y else x)=z) (D:Array TypeId) (t:TypeId) (w:World):(Builtin.max_ D t #[.int .i64 x,.int .i64 y]).run P w = .ok (.int .i64 z) w:=by
 rw [run_max_int2,<- h]
theorem p_b {P:Program} {x y z:Int} (h:(if y < x then y else x)=z) (D:Array TypeId) (t:TypeId) (w:World):(Builtin.min_ D t #[.int .i64 x,.int .i64 y]).run P w = .ok (.int .i64 z) w:=by
 rw [run_min_int2,<- h]
theorem r_H (x:Int) (J:InR x) (w:World):
  Calls Tryz.prog 166 #[.int .i64 x] w fun e H=>e = .returned (.int .i64 (bendI 1 x))/\∃ n,H=w.drewN n:=by
 obtain ⟨y,D⟩:∃ y,(if x < 0 then 0 else x)=y:=⟨_,rfl⟩
 have I:=m_k (P:=Tryz.prog) D;have E:Hid (bendI 1 x=y):=(r_C x).trans D;clear D;go_enter Tryz.func166,Tryz.ntmps166;go_wp2;go_ret;exact ⟨ret_int E.out.symm,0,rfl⟩
theorem r_I (x:Int) (I:InR x) (w:World):
  Calls Tryz.prog 168 #[.int .i64 x] w fun e D=>e = .returned (.int .i64 (bendI 2 x))/\∃ n,D=w.drewN n:=by
 rw [r_D];by_cases h:0 < x
 ·rw [if_pos h];go_enter Tryz.func168,Tryz.ntmps168;go_wp2;go_ret;exact ⟨rfl,0,rfl⟩
 ·rw [if_neg h,<- t_E I];have L:x<=0:=by omega
  have J:∀ W,Calls Tryz.prog 185 #[.int .i64 8] W fun e D=>e = .returned (.int .i64 34359738368)/\D=W:=fun W=>of_any 8 (by unfold InR;omega) W;have H:Hid (InR x):=I;clear I h;go_enter Tryz.func168,Tryz.ntmps168;go_wp2_with fail
  refine (J _).mono ?_;rintro e O ⟨rfl,rfl⟩;go_wp2_with fail
  refine (i_s x 34359738368 H.out (by unfold InR;omega) _).mono ?_;rintro e M ⟨rfl,m,rfl⟩;go_wp2;go_ret;exact ⟨rfl,m,rfl⟩
theorem r_J (x:Int) (M:InR x) (w:World):
  Calls Tryz.prog 170 #[.int .i64 x] w fun e I=>e = .returned (.int .i64 (bendI 3 x))/\∃ n,I=w.drewN n:=by
 obtain ⟨y,D⟩:∃ y,(if x < -4294967296 then -4294967296 else x)=y:=⟨_,rfl⟩
 obtain ⟨z,H⟩:∃ z,(if 4294967296 < y then 4294967296 else y)=z:=⟨_,rfl⟩
 have L:=m_k (P:=Tryz.prog) D;have J:=p_b (P:=Tryz.prog) H
 have E:Hid (bendI 3 x=z):=by
  show _=_;rw [r_E,<- H,<- D]
  repeat' split
  all_goals omega
 clear D H;go_enter Tryz.func170,Tryz.ntmps170;go_wp2;go_ret;exact ⟨ret_int E.out.symm,0,rfl⟩
theorem r_K (x:Int) (H:InR x) (w:World):
  Calls Tryz.prog 172 #[.int .i64 x] w fun e D=>e = .returned (.int .i64 (bendI 4 x))/\∃ n,D=w.drewN n:=by
 rw [r_F];by_cases h:x < 0
 ·rw [if_pos h];go_enter Tryz.func172,Tryz.ntmps172;go_wp2_with (go_at_call 187;refine (neg_any x H _).mono ?_;rintro e D ⟨rfl,rfl⟩)
  go_ret;exact ⟨rfl,0,rfl⟩
 ·rw [if_neg h];have I:0<=x:=by omega
  go_enter Tryz.func172,Tryz.ntmps172;go_wp2;go_ret;exact ⟨rfl,0,rfl⟩
theorem r_L (x:Int) (I:InR x) (w:World):
  Calls Tryz.prog 174 #[.int .i64 x] w fun e D=>e = .returned (.int .i64 (bendI 5 x))/\∃ n,D=w.drewN n:=by
 obtain ⟨a,H⟩:∃ a,by2 x=a:=⟨_,rfl⟩
 have U:InR a:=by rw [<- H];exact m_i I
 obtain ⟨b,M⟩:∃ b,hold (a+2147483648)=b:=⟨_,rfl⟩
 obtain ⟨y,L⟩:∃ y,(if b < 0 then 0 else b)=y:=⟨_,rfl⟩
 obtain ⟨z,O⟩:∃ z,(if 4294967296 < y then 4294967296 else y)=z:=⟨_,rfl⟩
 have k1:=m_k (P:=Tryz.prog) L;have k2:=p_b (P:=Tryz.prog) O;have R:∀ W,Calls Tryz.prog 185 #[.int .i64 2] W fun e D=>e = .returned (.int .i64 8589934592)/\D=W:=fun W=>of_any 2 (by unfold InR;omega) W;have J:=i_s x 8589934592 I (by unfold InR;omega) w;rw [t_F I,H] at J;have V:∀ W,Calls Tryz.prog 118 #[.int .i64 a,.int .i64 2147483648] W fun e D=>e = .returned (.int .i64 b)/\D=W:=fun W=>by rw [<- M];exact add_any a 2147483648 U (by unfold InR;omega) W
 have E:Hid (bendI 5 x=z):=by
  show _=_;rw [r_G,H,M,<- O,<- L]
  repeat' split
  all_goals omega
 clear L O H M I U;go_enter Tryz.func174,Tryz.ntmps174;go_wp2_with fail
 refine (R _).mono ?_;rintro e w1 ⟨rfl,rfl⟩;go_wp2_with fail
 refine J.mono ?_;rintro e w2 ⟨rfl,m,rfl⟩;go_wp2_with fail
 refine (V _).mono ?_;rintro e w3 ⟨rfl,rfl⟩;clear R J V;go_wp2;go_ret;exact ⟨ret_int E.out.symm,m,rfl⟩
theorem d_y (x:Int) (b:Bool) (hb:decide (-4294967296 < x/\x < 4294967296)=b) (w:World):
  Calls Tryz.prog 186 #[.int .i64 x] w fun e I=>e = .returned (.bool b)/\I=w:=by
 by_cases D:-4294967296 < x
 ·by_cases H:x < 4294967296
  ·rw [decide_eq_true ⟨D,H⟩] at hb;subst hb;go_enter Tryz.func186,Tryz.ntmps186;go_wp2;go_ret;exact ⟨rfl,rfl⟩
  ·rw [decide_eq_false fun h=>H h.2] at hb;subst hb;have J:4294967296<=x:=by omega
   go_enter Tryz.func186,Tryz.ntmps186;go_wp2;go_ret;exact ⟨rfl,rfl⟩
 ·rw [decide_eq_false fun h=>D h.1] at hb;subst hb;have L:x<=-4294967296:=by omega
  go_enter Tryz.func186,Tryz.ntmps186;go_wp2;go_ret;exact ⟨rfl,rfl⟩
theorem r_M (x:Int) (w:World):
  Calls Tryz.prog 167 #[.int .i64 x] w fun e D=>e = .returned (.int .i64 (slopeI 1 x))/\D=w:=by
 rw [q_f];by_cases h:0 < x
 ·rw [if_pos h];go_enter Tryz.func167,Tryz.ntmps167;go_wp2;go_ret;exact ⟨rfl,rfl⟩
 ·rw [if_neg h];have H:x<=0:=by omega
  go_enter Tryz.func167,Tryz.ntmps167;go_wp2;go_ret;exact ⟨rfl,rfl⟩
theorem r_N (x:Int) (w:World):
  Calls Tryz.prog 169 #[.int .i64 x] w fun e D=>e = .returned (.int .i64 (slopeI 2 x))/\D=w:=by
 rw [q_g];by_cases h:0 < x
 ·rw [if_pos h];go_enter Tryz.func169,Tryz.ntmps169;go_wp2;go_ret;exact ⟨rfl,rfl⟩
 ·rw [if_neg h];have H:x<=0:=by omega
  go_enter Tryz.func169,Tryz.ntmps169;go_wp2;go_ret;exact ⟨rfl,rfl⟩
theorem r_O (x:Int) (w:World):
  Calls Tryz.prog 171 #[.int .i64 x] w fun e D=>e = .returned (.int .i64 (slopeI 3 x))/\D=w:=by
 rw [q_h];by_cases h:-4294967296 < x/\x < 4294967296
 ·rw [if_pos h];have c:=d_y x true (decide_eq_true h);clear h;go_enter Tryz.func171,Tryz.ntmps171;go_wp2_with (go_at_call 186;refine (c _).mono ?_;rintro e D ⟨rfl,rfl⟩)
  go_ret;exact ⟨rfl,rfl⟩
 ·rw [if_neg h];have c:=d_y x false (decide_eq_false h);clear h;go_enter Tryz.func171,Tryz.ntmps171;go_wp2_with (go_at_call 186;refine (c _).mono ?_;rintro e D ⟨rfl,rfl⟩)
  go_ret;exact ⟨rfl,rfl⟩
theorem r_P (x:Int) (w:World):
  Calls Tryz.prog 173 #[.int .i64 x] w fun e H=>e = .returned (.int .i64 (slopeI 4 x))/\H=w:=by
 rw [q_i];by_cases h:0 < x
 ·rw [if_pos h];go_enter Tryz.func173,Tryz.ntmps173;go_wp2;go_ret;exact ⟨rfl,rfl⟩
 ·rw [if_neg h];have J:x<=0:=by omega
  by_cases D:x < 0
  ·rw [if_pos D];go_enter Tryz.func173,Tryz.ntmps173;go_wp2;go_ret;exact ⟨rfl,rfl⟩
  ·rw [if_neg D];have I:0<=x:=by omega
   go_enter Tryz.func173,Tryz.ntmps173;go_wp2;go_ret;exact ⟨rfl,rfl⟩
theorem r_Q (x:Int) (w:World):
  Calls Tryz.prog 175 #[.int .i64 x] w fun e D=>e = .returned (.int .i64 (slopeI 5 x))/\D=w:=by
 rw [q_j];by_cases h:-4294967296 < x/\x < 4294967296
 ·rw [if_pos h];have c:=d_y x true (decide_eq_true h);clear h;go_enter Tryz.func175,Tryz.ntmps175;go_wp2_with (go_at_call 186;refine (c _).mono ?_;rintro e D ⟨rfl,rfl⟩)
  go_ret;exact ⟨rfl,rfl⟩
 ·rw [if_neg h];have c:=d_y x false (decide_eq_false h);clear h;go_enter Tryz.func175,Tryz.ntmps175;go_wp2_with (go_at_call 186;refine (c _).mono ?_;rintro e D ⟨rfl,rfl⟩)
  go_ret;exact ⟨rfl,rfl⟩
theorem s_Y (w:World):
  Calls Tryz.prog 136 #[.int .i64 1] w fun e D=>e = .returned (.tuple #[.agg #[.func (.func 166) #[] #[],.func (.func 167) #[] #[]],.bool true])/\Below w.heap.size w D:=by
 go_enter Tryz.func136,Tryz.ntmps136;go_wp2;exact bodyPost_ret (v:=.tuple #[.agg #[.func (.func 166) #[] #[],.func (.func 167) #[] #[]],.bool true]) (by simp [results,Tryz.results136,go_sem]) rfl ⟨rfl,by go_grown⟩
theorem s_Z (w:World):
  Calls Tryz.prog 136 #[.int .i64 2] w fun e D=>e = .returned (.tuple #[.agg #[.func (.func 168) #[] #[],.func (.func 169) #[] #[]],.bool true])/\Below w.heap.size w D:=by
 go_enter Tryz.func136,Tryz.ntmps136;go_wp2;exact bodyPost_ret (v:=.tuple #[.agg #[.func (.func 168) #[] #[],.func (.func 169) #[] #[]],.bool true]) (by simp [results,Tryz.results136,go_sem]) rfl ⟨rfl,by go_grown⟩
theorem s_0 (w:World):
  Calls Tryz.prog 136 #[.int .i64 3] w fun e D=>e = .returned (.tuple #[.agg #[.func (.func 170) #[] #[],.func (.func 171) #[] #[]],.bool true])/\Below w.heap.size w D:=by
 go_enter Tryz.func136,Tryz.ntmps136;go_wp2;exact bodyPost_ret (v:=.tuple #[.agg #[.func (.func 170) #[] #[],.func (.func 171) #[] #[]],.bool true]) (by simp [results,Tryz.results136,go_sem]) rfl ⟨rfl,by go_grown⟩
theorem s_1 (w:World):
  Calls Tryz.prog 136 #[.int .i64 4] w fun e D=>e = .returned (.tuple #[.agg #[.func (.func 172) #[] #[],.func (.func 173) #[] #[]],.bool true])/\Below w.heap.size w D:=by
 go_enter Tryz.func136,Tryz.ntmps136;go_wp2;exact bodyPost_ret (v:=.tuple #[.agg #[.func (.func 172) #[] #[],.func (.func 173) #[] #[]],.bool true]) (by simp [results,Tryz.results136,go_sem]) rfl ⟨rfl,by go_grown⟩
theorem s_2 (w:World):
  Calls Tryz.prog 136 #[.int .i64 5] w fun e D=>e = .returned (.tuple #[.agg #[.func (.func 174) #[] #[],.func (.func 175) #[] #[]],.bool true])/\Below w.heap.size w D:=by
 go_enter Tryz.func136,Tryz.ntmps136;go_wp2;exact bodyPost_ret (v:=.tuple #[.agg #[.func (.func 174) #[] #[],.func (.func 175) #[] #[]],.bool true]) (by simp [results,Tryz.results136,go_sem]) rfl ⟨rfl,by go_grown⟩
theorem q_k (k:Int) (D:k < 1∨5 < k) (w:World):
  Calls Tryz.prog 136 #[.int .i64 k] w fun e H=>e = .returned (.tuple #[.agg #[.nilFunc,.nilFunc],.bool false])/\Below w.heap.size w H:=by
 have I:(k==1)=false:=by simp;omega
 have L:(k==2)=false:=by simp;omega
 have M:(k==3)=false:=by simp;omega
 have O:(k==4)=false:=by simp;omega
 have J:(k==5)=false:=by simp;omega
 clear D;go_enter Tryz.func136,Tryz.ntmps136;go_wp2;exact bodyPost_ret (v:=.tuple #[.agg #[.nilFunc,.nilFunc],.bool false]) (by simp [results,Tryz.results136,go_sem]) rfl ⟨rfl,by go_grown⟩
theorem j_S (k:Int) (J:1<=k/\k<=5):∃ H I:FuncId,(∀ args W,(callFunc H args).run Tryz.prog W = .ok (.enter H args) W)/\(∀ args W,(callFunc I args).run Tryz.prog W = .ok (.enter I args) W)
  /\ (∀ x,InR x->∀ W,Calls Tryz.prog H #[.int .i64 x] W fun e D=>e = .returned (.int .i64 (bendI k x))/\∃ n,D=W.drewN n)/\(∀ x W,Calls Tryz.prog I #[.int .i64 x] W fun e D=>e = .returned (.int .i64 (slopeI k x))/\D=W)
  /\ ∀ w,Calls Tryz.prog 136 #[.int .i64 k] w fun e D=>e = .returned (.tuple #[.agg #[.func (.func H) #[] #[],.func (.func I) #[] #[]],.bool true])/\Below w.heap.size w D:=by
 have:k=1∨k=2∨k=3∨k=4∨k=5:=by omega
 rcases this with rfl|rfl|rfl|rfl|rfl
 ·exact ⟨_,_,fun args W=>by simp [go_sem],fun args W=>by simp [go_sem],r_H,r_M,s_Y⟩
 ·exact ⟨_,_,fun args W=>by simp [go_sem],fun args W=>by simp [go_sem],r_I,r_N,s_Z⟩
 ·exact ⟨_,_,fun args W=>by simp [go_sem],fun args W=>by simp [go_sem],r_J,r_O,s_0⟩
 ·exact ⟨_,_,fun args W=>by simp [go_sem],fun args W=>by simp [go_sem],r_K,r_P,s_1⟩
 ·exact ⟨_,_,fun args W=>by simp [go_sem],fun args W=>by simp [go_sem],r_L,r_Q,s_2⟩
end Go.Proofs.YtjlofobnmjompaaGreatDoor.Fx
namespace Go.Proofs.YtjlofobnmjompaaGreatDoor.Wd
open Go.RowKit Fx
def f_2 (k:Int) (d x:List Int):Int:=if (1<=k/\k<=5)/\isP d x then 0 else 1
def i_D (k:Int) (d x:List Int):List Int:=if (1<=k/\k<=5)/\isP d x then d else []
def k_H (k:Int) (d x:List Int):List Int:=if (1<=k/\k<=5)/\isP d x then x.map fun y=>Fx.bendI k y else []
theorem r_R (f:Int->Int) (x:List Int) (k:Nat) (h:k < x.length):(x.map f).getD k 0=f (x.getD k 0):=by
 rw [List.getD_eq_getElem?_getD,List.getElem?_map,List.getElem?_eq_getElem h,a_r x k 0 h];rfl
theorem o_f (k:Int) (p p2:Option Addr) (n c H c2:Nat) (d x:List Int) (hd:RI d) (hx:RI x) (w:World) (h1:Nums .i64 w (.slice p n c) d) (h2:Nums .i64 w (.slice p2 H c2) x):
  Calls Tryz.prog 126 #[.int .i64 k,.agg #[.slice p n c,.slice p2 H c2]] w fun e w'=>∃ v',e = .returned (.tuple #[v',.int .i64 (f_2 k d x)])/\TRes w' w.heap.size v' (i_D k d x) (k_H k d x)/\Below w.heap.size w w':=by
 have cA:=fun W (hW:Below w.heap.size w W)=>a_D _ _ d x hd W (h1.up hW) (h2.up hW);unfold f_2 i_D k_H;by_cases hk:1<=k/\k<=5
 ·obtain ⟨K1,K2,e1,e2,f1,f2,cl⟩:=j_S k hk;by_cases hp:isP d x
  ·rw [decide_eq_true hp] at cA;rw [if_pos ⟨hk,hp⟩,if_pos ⟨hk,hp⟩,if_pos ⟨hk,hp⟩];obtain ⟨V,eV⟩:∃ V,(x.map fun y=>Fx.bendI k y)=V:=⟨_,rfl⟩
   rw [eV];have HN:Hid (Nums .i64 w (.slice p n c) d/\Nums .i64 w (.slice p2 H c2) x):=⟨h1,h2⟩
   obtain ⟨_,_,_,e4,HX⟩:=h2.lst;cases e4;have au:x.length<=4096:=by rw [hp.2];exact hp.1.2.2
   rw [HX.out.1] at au;have ax:(H:Int)<=4096:=by omega
   have HV:Hid ((x.map fun y=>Fx.bendI k y)=V/\V.length=H/\isP d x/\RI x/\x.length=H):=⟨eV,by rw [<- eV,List.length_map];exact HX.out.1,hp,hx,HX.out.1⟩
   have aw:Hid (∀ x,InR x->∀ W,Calls Tryz.prog K1 #[.int .i64 x] W fun e w'=>e = .returned (.int .i64 (bendI k x))/\∃ n,w'=W.drewN n):=f1;clear eV h1 h2 hd hx hp hk f1 f2 e2;go_enter Tryz.func126,Tryz.ntmps126;go_wp2_with fail
   generalize D:World.alloc _ _=W0;have R:=b_C (w:=w) D (by go_grown);have XA:Hid (Cel W0 w.heap.size (.slice p n c) (.slice p2 H c2)):=a_y D (by simp [go_sem]);have XR:Hid (Cel W0 (w.heap.size+1) (.slice none 0 0) (.slice none 0 0)):=a_y D (by simp [go_sem]);clear D;refine (cl W0).mono ?_;rintro e w1 ⟨rfl,L⟩;have J:=a_M (a_c R.out L) L;clear L cl;obtain ⟨a0,a1,_,_⟩:=XA.out.up J.out.2;have z0:=a_a a0;go_wp2_with fail
   generalize U:World.alloc _ _=W2;have B2:Below w1.heap.size w1 W2:=by rw [<- U];exact a_b w1 _
   have XL:Hid (Cel W2 w1.heap.size (.func (.func K1) #[] #[]) (.func (.func K2) #[] #[])):=by show Cel _ _ _ _;unfold Cel;rw [<- U];simp [go_sem]
   have aa:=a_M (a_c J.out.1 B2) (a_c J.out.2 B2);have HL:Hid (W0.heap.size<=w1.heap.size):=J.out.2.size;obtain ⟨bl,ag⟩:∃ bl,w1.heap.size=bl:=⟨_,rfl⟩
   rw [ag] at XL HL ⊢;clear U B2;refine (cA W2 aa.out.1).mono ?_;rintro e w3 ⟨rfl,O⟩;have I:Hid (Below w.heap.size w w3/\Below W0.heap.size W0 w3/\Below W2.heap.size W2 w3):=⟨a_c aa.out.1 O,a_c aa.out.2 O,O⟩
   clear O cA a0 a1 z0;obtain ⟨a0,a1,_,_⟩:=XA.out.up I.out.2.1;go_wp2_with (at_make;refine a_z k_u (by decide) _ rfl (.tmp 26) (.tmp 26) rfl .i64 .i64 H H H rfl rfl rfl rfl (by omega) w.heap.size w I.out.1.size I.out.1 ?_;intro w4 ai B4 ay;clear ay;have aB:=(XA.out.up (a_c I.out.2.1 B4));obtain ⟨a2,a3,_,_⟩:=aB)
   obtain ⟨g,hg⟩:∃ g,w3.heap.size=g:=⟨_,rfl⟩
   have ad:Hid (Below w.heap.size w w4/\Below W0.heap.size W0 w4/\Below W2.heap.size W2 w4):=⟨a_c I.out.1 B4,a_c I.out.2.1 B4,a_c I.out.2.2 B4⟩
   rw [hg] at ai ⊢;have hz:=a_a XR.out.1;have Hg:Hid (W0.heap.size<=g/\w.heap.size+1 < W0.heap.size/\bl < g):=⟨by rw [<- hg];exact I.out.2.1.size,hz,by rw [<- hg];exact Nat.lt_of_lt_of_le (a_a XL.out.1) I.out.2.2.size⟩
   have az:Hid (OwnK .i64 23 w4 g (.slice (some ⟨g,0,none⟩) H H) (b_K V 0)):=by
    show OwnK _ _ _ _ _ _;rw [a_Z,HV.out.2.1];exact ai.out
   clear a0 a1 a2 a3 ai B4 hg hz
   go_loopg [31] H (fun gg i wr=>∃ (k:Nat),k<=H/\gg=H - k/\i = .int .i64 (k:Int)/\Hid (OwnK .i64 23 wr g (.slice (some ⟨g,0,none⟩) H H) (b_K V k))/\Hid (Below w.heap.size w wr/\Stay g w4 wr))
   case atStart=>exact ⟨0,by omega,by omega,by first|rfl|simp,az,ad.out.1,Stay.refl _ _⟩
   case round=>
    obtain ⟨j,hj,hg,rfl,am,M⟩:=hrel;obtain ⟨R1,aD⟩:∃ R1:World,R1=wr:=⟨_,rfl⟩
    subst aD;by_cases ab:j < H
    ·have aG:(j:Int) < (H:Int):=by omega
     obtain ⟨q,o,rfl,ar⟩:=HX.out.2 j ab;have ap:=a_d ar M.out.1;have rx:=HV.out.2.2.2.1.at j (by rw [HV.out.2.2.2.2];exact ab);obtain ⟨X,eX⟩:∃ X,x.getD j 0=X:=⟨_,rfl⟩
     rw [eX] at ap rx;obtain ⟨Z,eZ⟩:∃ Z,Fx.bendI k X=Z:=⟨_,rfl⟩
     have HZ:Hid (V.getD j 0=Z):=by
      show _=_;rw [<- HV.out.1,r_R _ _ _ (by rw [HV.out.2.2.2.2];exact ab),eX,eZ]
     have cz:∀ W,Calls Tryz.prog K1 #[.int .i64 X] W fun e w'=>e = .returned (.int .i64 Z)/\∃ n,w'=W.drewN n:=fun W=>by rw [<- eZ];exact aw.out X rx W
     have an:bl≠g:=by have:=Hg.out;omega
     obtain ⟨l0,l1,_,_⟩:=(XL.out.up ad.out.2.2).stay M.out.2 an;have aA:w.heap.size<=g:=by have:=Hg.out;have:=R.out.size;omega
     clear eX eZ ar an;go_wp2_with fail
     refine (cz _).mono ?_;rintro e w5 ⟨rfl,m,rfl⟩;have aj:Hid (OwnK .i64 23 (R1.drewN m) g (.slice (some ⟨g,0,none⟩) H H) (b_K V j)):=am.out.up (k_G _ _);have ah:Hid (Below w.heap.size w (R1.drewN m)/\Stay g w4 (R1.drewN m)):=⟨a_c M.out.1 (k_G _ _),M.out.2.up (k_G _ _)⟩
     obtain ⟨R2,ao⟩:∃ R2:World,R1.drewN m=R2:=⟨_,rfl⟩
     rw [ao] at aj ah ⊢;obtain ⟨aE,aF⟩:=aj.out.cell (by rw [a_B];exact HV.out.2.1) j ab
     have H5:Hid (OwnK .i64 23 (R2.setCell ⟨g,j,none⟩ (.int .i64 Z)) g (.slice (some ⟨g,0,none⟩) H H) (b_K V (j+1))):=by
      have:=aj.out.store (by rw [a_B];exact HV.out.2.1) j Z;rw [<- HZ.out,b_r V j (by rw [HV.out.2.1];exact ab)] at this;rw [<- HZ.out];exact this
     have H6:Hid (Below w.heap.size w (R2.setCell ⟨g,j,none⟩ (.int .i64 Z))/\Stay g w4 (R2.setCell ⟨g,j,none⟩ (.int .i64 Z))):=⟨ah.out.1.setCell (p:=⟨g,j,none⟩) aA _,ah.out.2.set _ _⟩
     clear cz l0 l1 ap ao;go_wp2;go_roundg (H - (j+1))
     case measure=>omega
     case rel=>exact ⟨j+1,by omega,rfl,by first|rfl|simp,H5,H6⟩
    ·obtain rfl:j=H:=by omega
     have ae:w.heap.size≠g:=by have:=Hg.out;omega
     have af:w.heap.size+1≠g:=by have:=Hg.out;omega
     obtain ⟨a0,a1,_,_⟩:=(XA.out.up ad.out.2.1).stay M.out.2 ae;have av:=(XR.out.up ad.out.2.1).stay M.out.2 af;have ac:=am.out;rw [<- HV.out.2.1,b_e,HV.out.2.1] at ac;have aq:Hid (OwnK .i64 23 R1 g (.slice (some ⟨g,0,none⟩) j j) V):=ac;have cc:=b_h _ d (by have:=HV.out.2.2.1.1.1;rw [a_Q] at this;omega) R1 (HN.out.1.up M.out.1);have aC:Hid (Cel R1 (w.heap.size+1) (.slice none 0 0) (.slice none 0 0)):=av;clear ac av ae af;go_wp2_with fail
     refine cc.mono ?_;rintro e w6 ⟨v6,rfl,h6,ak⟩;obtain ⟨p6,n6,c6,rfl,_⟩:=h6.nums.lst
     have HF:Hid (TRes (set2 w6 (w.heap.size+1) (.slice p6 n6 c6) (.slice (some ⟨g,0,none⟩) j j)) w.heap.size (.agg #[.slice p6 n6 c6,.slice (some ⟨g,0,none⟩) j j]) d V/\Below w.heap.size w (set2 w6 (w.heap.size+1) (.slice p6 n6 c6) (.slice (some ⟨g,0,none⟩) j j))):=by
      have hs:g<=R1.heap.size:=Nat.le_of_lt aq.out.size;exact ⟨(TRes.set (h6.low (Nat.le_trans Hg.out.1 hs)) ((aq.out.up ak).low Hg.out.1) Hg.out.2.1).low R.out.size,a_j (a_c M.out.1 ak) _ (by omega) _ _⟩
     clear cc h6 a0 a1;have xr:=(aC.out.up ak)
     have cf:=xr.set (.slice p6 n6 c6) (.slice (some ⟨g,0,none⟩) j j);obtain ⟨r0,r1,r2,r3⟩:=xr;obtain ⟨y0,y1,_,_⟩:=cf;go_wp2;exact bodyPost_ret (v:=.tuple #[.agg #[.slice p6 n6 c6,.slice (some ⟨g,0,none⟩) j j],.int .i64 0]) (by simp [results,Tryz.results126,go_sem,y0,y1]) rfl ⟨_,rfl,HF.out⟩
  ·rw [decide_eq_false hp] at cA;rw [if_neg fun h=>hp h.2,if_neg fun h=>hp h.2,if_neg fun h=>hp h.2];clear h1 h2 hd hx hp hk f1 f2 e1 e2;go_enter Tryz.func126,Tryz.ntmps126;go_wp2_with fail
   generalize D:World.alloc _ _=W0;have R:=b_C (w:=w) D (by go_grown);have XA:Hid (Cel W0 w.heap.size (.slice p n c) (.slice p2 H c2)):=a_y D (by simp [go_sem]);have XR:Hid (Cel W0 (w.heap.size+1) (.slice none 0 0) (.slice none 0 0)):=a_y D (by simp [go_sem]);clear D;refine (cl W0).mono ?_;rintro e w1 ⟨rfl,L⟩;have J:=a_M (a_c R.out L) L;clear L cl;obtain ⟨a0,a1,_,_⟩:=XA.out.up J.out.2;have z0:=a_a a0;go_wp2_with fail
   generalize U:World.alloc _ _=W2;have B2:Below w1.heap.size w1 W2:=by rw [<- U];exact a_b w1 _
   have XL:Hid (Cel W2 w1.heap.size (.func (.func K1) #[] #[]) (.func (.func K2) #[] #[])):=by show Cel _ _ _ _;unfold Cel;rw [<- U];simp [go_sem]
   have aa:=a_M (a_c J.out.1 B2) (a_c J.out.2 B2);have HL:Hid (W0.heap.size<=w1.heap.size):=J.out.2.size;obtain ⟨bl,ag⟩:∃ bl,w1.heap.size=bl:=⟨_,rfl⟩
   rw [ag] at XL HL ⊢;clear U B2;refine (cA W2 aa.out.1).mono ?_;rintro e w3 ⟨rfl,O⟩;have I:=a_M (a_c aa.out.1 O) (a_c aa.out.2 O);clear O cA a0 a1 z0;have xr:=(XR.out.up (I.out).2)
   have BF:=a_j ((I.out).1) (w.heap.size+1) (by omega) (.slice none 0 0) (.slice none 0 0);have cf:=xr.set (.slice none 0 0) (.slice none 0 0);obtain ⟨r0,r1,r2,r3⟩:=xr;obtain ⟨y0,y1,_,_⟩:=cf;go_wp2;exact bodyPost_ret (v:=.tuple #[.agg #[.slice none 0 0,.slice none 0 0],.int .i64 1]) (by simp [results,Tryz.results126,go_sem,y0,y1]) rfl ⟨_,rfl,TRes.none _ _,BF⟩
 ·have cl:=q_k k (by omega);rw [if_neg fun h=>hk h.1,if_neg fun h=>hk h.1,if_neg fun h=>hk h.1];clear h1 h2 hd hx hk cA;go_enter Tryz.func126,Tryz.ntmps126;go_wp2_with fail
  generalize D:World.alloc _ _=W0;have R:=b_C (w:=w) D (by go_grown);have XA:Hid (Cel W0 w.heap.size (.slice p n c) (.slice p2 H c2)):=a_y D (by simp [go_sem]);have XR:Hid (Cel W0 (w.heap.size+1) (.slice none 0 0) (.slice none 0 0)):=a_y D (by simp [go_sem]);clear D;refine (cl W0).mono ?_;rintro e w1 ⟨rfl,L⟩;have J:=a_M (a_c R.out L) L;clear L cl;have xr:=(XR.out.up J.out.2)
  have aH:=a_a xr.1;have BF:=a_c (a_j J.out.1 (w.heap.size+1) (by omega) (.slice none 0 0) (.slice none 0 0)) (a_b _ (.cells #[.nilFunc,.nilFunc] 200));have cf:=(xr.set (.slice none 0 0) (.slice none 0 0)).up (a_b _ (.cells #[.nilFunc,.nilFunc] 200));obtain ⟨r0,r1,r2,r3⟩:=xr;obtain ⟨y0,y1,_,_⟩:=cf;go_wp2;exact bodyPost_ret (v:=.tuple #[.agg #[.slice none 0 0,.slice none 0 0],.int .i64 1]) (by simp [results,Tryz.results126,go_sem,y0,y1]) rfl ⟨_,rfl,TRes.none _ _,BF⟩
end Go.Proofs.YtjlofobnmjompaaGreatDoor.Wd
