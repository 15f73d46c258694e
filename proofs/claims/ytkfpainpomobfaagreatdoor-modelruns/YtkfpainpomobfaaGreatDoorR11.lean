/- Bent lines and their slopes, as numbers: -/
import Derived.Laws.EntriesVeiled
import Derived.Test.YtkfpainpomobfaaGreatDoorR10
set_option linter.unusedVariables false
set_option linter.unusedSimpArgs false
set_option maxHeartbeats 16000000
set_option maxRecDepth 16000
namespace Go.Proofs.YtkfpainpomobfaaGreatDoor.Fx
open Go.RowKit List World Nat
/-- A number by 8, by 2: rounded to the even one half way. -/
def by8 (x:Int):Int:=sg (decide (x < 0)) (rq x.natAbs 8)
def by2 (x:Int):Int:=sg (decide (x < 0)) (rq x.natAbs 2)
theorem k_m (n d k:Nat) (A:0 < k) (I:0 < d):rq (n*k) (d*k)=rq n d:=by
 unfold rq;rw [Nat.mul_div_mul_right _ _ A,mul_mod_mul_right]
 have E:d*k < 2*(n % d*k)↔d < 2*(n % d):=by
  rw [<- Nat.mul_assoc];exact Nat.mul_lt_mul_right A
 have H:2*(n % d*k)=d*k↔2*(n % d)=d:=by
  rw [<- Nat.mul_assoc];exact Nat.mul_left_inj (by omega)
 simp only [E,H]
theorem r_b (n:Nat):rq n 8<=n:=by
 unfold rq
 split <;> omega
theorem r_c (n:Nat):rq n 2<=n:=by
 unfold rq
 split <;> omega
theorem m_6 {x:Int} (h:InR x):InR (by8 x):=by
 unfold InR at h ⊢;have:=r_b x.natAbs;unfold by8 sg
 split
 ·rename_i A
  have:=of_decide_eq_true A;omega
 ·rename_i A
  have:¬ x < 0:=fun c=>A (decide_eq_true c);omega
theorem j_l {x:Int} (h:InR x):InR (by2 x):=by
 unfold InR at h ⊢;have:=r_c x.natAbs;unfold by2 sg
 split
 ·rename_i A
  have:=of_decide_eq_true A;omega
 ·rename_i A
  have:¬ x < 0:=fun c=>A (decide_eq_true c);omega
theorem u_A {x:Int} (h:InR x):k_2 x 34359738368=by8 x:=by
 have A:=m_6 h;unfold k_2;rw [if_neg (by omega)]
 have E:differ x 34359738368=decide (x < 0):=by
  unfold differ;rw [show decide ((34359738368:Int) < 0)=false from rfl];cases decide (x < 0) <;> rfl
 have H:rq (x.natAbs*4294967296) (34359738368:Int).natAbs=rq x.natAbs 8:=k_m x.natAbs 8 4294967296 (by omega) (by omega);rw [E,H];exact d_B A.1 A.2
theorem u_B {x:Int} (h:InR x):k_2 x 8589934592=by2 x:=by
 have A:=j_l h;unfold k_2;rw [if_neg (by omega)]
 have E:differ x 8589934592=decide (x < 0):=by
  unfold differ;rw [show decide ((8589934592:Int) < 0)=false from rfl];cases decide (x < 0) <;> rfl
 have H:rq (x.natAbs*4294967296) (8589934592:Int).natAbs=rq x.natAbs 2:=k_m x.natAbs 2 4294967296 (by omega) (by omega);rw [E,H];exact d_B A.1 A.2
/-- The lines, by kind; their slopes. -/
def bendI (k x:Int):Int:=
 if k=1 then (if x < 0 then 0 else x)
 else if k=2 then (if 0 < x then x else by8 x)
 else if k=3 then (if 4294967296 < x then 4294967296 else if x < -4294967296 then -4294967296 else x)
 else if k=4 then (if x < 0 then hold (-x) else x)
 else (if hold (by2 x+2147483648) < 0 then 0 else if 4294967296 < hold (by2 x+2147483648) then 4294967296 else hold (by2 x+2147483648))
def d_G (k x:Int):Int:=
 if k=1 then (if 0 < x then 4294967296 else 0)
 else if k=2 then (if 0 < x then 4294967296 else 536870912)
 else if k=3 then (if -4294967296 < x/\x < 4294967296 then 4294967296 else 0)
 else if k=4 then (if 0 < x then 4294967296 else if x < 0 then -4294967296 else 0)
 else (if -4294967296 < x/\x < 4294967296 then 2147483648 else 0)
theorem p_8 (x:Int):bendI 1 x=if x < 0 then 0 else x:=if_pos rfl
theorem p_9 (x:Int):bendI 2 x=if 0 < x then x else by8 x:=(if_neg (by decide)).trans (if_pos rfl)
theorem q_a (x:Int):bendI 3 x=if 4294967296 < x then 4294967296 else if x < -4294967296 then -4294967296 else x:=(if_neg (by decide)).trans ((if_neg (by decide)).trans (if_pos rfl))
theorem q_b (x:Int):bendI 4 x=if x < 0 then hold (-x) else x:=(if_neg (by decide)).trans ((if_neg (by decide)).trans ((if_neg (by decide)).trans (if_pos rfl)))
theorem r_d (x:Int):d_G 1 x=if 0 < x then 4294967296 else 0:=if_pos rfl
theorem r_e (x:Int):d_G 2 x=if 0 < x then 4294967296 else 536870912:=(if_neg (by decide)).trans (if_pos rfl)
theorem r_f (x:Int):d_G 3 x=if -4294967296 < x/\x < 4294967296 then 4294967296 else 0:=(if_neg (by decide)).trans ((if_neg (by decide)).trans (if_pos rfl))
theorem r_g (x:Int):d_G 4 x=if 0 < x then 4294967296 else if x < 0 then -4294967296 else 0:=(if_neg (by decide)).trans ((if_neg (by decide)).trans ((if_neg (by decide)).trans (if_pos rfl)))
theorem q_c (x:Int):bendI 5 x=if hold (by2 x+2147483648) < 0 then 0 else if 4294967296 < hold (by2 x+2147483648) then 4294967296 else hold (by2 x+2147483648):=(if_neg (by decide)).trans ((if_neg (by decide)).trans ((if_neg (by decide)).trans (if_neg (by decide))))
theorem r_h (x:Int):d_G 5 x=if -4294967296 < x/\x < 4294967296 then 2147483648 else 0:=(if_neg (by decide)).trans ((if_neg (by decide)).trans ((if_neg (by decide)).trans (if_neg (by decide))))
theorem p_k {k x:Int} (h:InR x):InR (bendI k x):=by
 have A:=m_6 h;have E:=b_6 (-x);unfold InR at *;unfold bendI
 repeat' split
 all_goals omega
theorem bst {w A E:World} (h:Bw w A) (H:Bw A E):Bw w E:=h.trans (H.mono h.size)
theorem l_m (W:World) (m:Nat):Bw W (W.drewN m):=⟨rfl,rfl,rfl,Nat.le_refl _,fun _ _=>rfl⟩
theorem neg_any (a:Int) (E:InR a) (w:World):
  Calls Tryz.prog 217 #[.int .i64 a] w fun e A=>e = .returned (.int .i64 (hold (-a)))/\A=w:=by
 go_enter Tryz.func217,Tryz.ntmps217;go_wp2_with (go_at_call 147;refine (sub_any 0 a (by unfold InR;omega) E _).mono ?_;rintro e A ⟨rfl,rfl⟩)
 go_ret;exact ⟨by simp,rfl⟩
theorem m_7 {P:Program} {x y z:Int} (h:(if x < y then y else x)=z) (A:Array TypeId) (t:TypeId) (w:World):(Builtin.max_ A t #[.int .i64 x,.int .i64 y]).run P w = .ok (.int .i64 z) w:=by
 rw [run_max_int2,<- h]
theorem q_d {P:Program} {x y z:Int} (h:(if y < x then y else x)=z) (A:Array TypeId) (t:TypeId) (w:World):(Builtin.min_ A t #[.int .i64 x,.int .i64 y]).run P w = .ok (.int .i64 z) w:=by
 rw [run_min_int2,<- h]
theorem s_s (x:Int) (I:InR x) (w:World):
  Calls Tryz.prog 193 #[.int .i64 x] w fun e H=>e = .returned (.int .i64 (bendI 1 x))/\∃ n,H=w.drewN n:=by
 obtain ⟨y,A⟩:∃ y,(if x < 0 then 0 else x)=y:=⟨_,rfl⟩
 have J:=m_7 (P:=Tryz.prog) A;have E:Hid (bendI 1 x=y):=(p_8 x).trans A;clear A;go_enter Tryz.func193,Tryz.ntmps193;go_wp2;go_ret;exact ⟨ret_int E.symm,0,rfl⟩
theorem s_t (x:Int) (A:InR x) (w:World):
  Calls Tryz.prog 195 #[.int .i64 x] w fun e E=>e = .returned (.int .i64 (bendI 2 x))/\∃ n,E=w.drewN n:=by
 rw [p_9];by_cases h:0 < x
 ·rw [if_pos h];go_enter Tryz.func195,Tryz.ntmps195;go_wp2;go_ret;exact ⟨rfl,0,rfl⟩
 ·rw [if_neg h,<- u_A A];have M:x<=0:=by omega
  have I:∀ W,Calls Tryz.prog 215 #[.int .i64 8] W fun e E=>e = .returned (.int .i64 34359738368)/\E=W:=fun W=>of_any 8 (by unfold InR;omega) W;have H:Hid _:=A;clear A h;go_enter Tryz.func195,Tryz.ntmps195;go_wp2_with fail
  refine (I _).mono ?_;rintro e J ⟨rfl,rfl⟩;go_wp2_with fail
  refine (m_H x 34359738368 H.out (by unfold InR;omega) _).mono ?_;rintro e L ⟨rfl,m,rfl⟩;go_wp2;go_ret;exact ⟨rfl,m,rfl⟩
theorem s_u (x:Int) (J:InR x) (w:World):
  Calls Tryz.prog 197 #[.int .i64 x] w fun e I=>e = .returned (.int .i64 (bendI 3 x))/\∃ n,I=w.drewN n:=by
 obtain ⟨y,H⟩:∃ y,(if x < -4294967296 then -4294967296 else x)=y:=⟨_,rfl⟩
 obtain ⟨z,A⟩:∃ z,(if 4294967296 < y then 4294967296 else y)=z:=⟨_,rfl⟩
 have M:=m_7 (P:=Tryz.prog) H;have L:=q_d (P:=Tryz.prog) A
 have E:Hid (bendI 3 x=z):=by
  show _=_;rw [q_a,<- A,<- H]
  repeat' split
  all_goals omega
 clear H A;go_enter Tryz.func197,Tryz.ntmps197;go_wp2;go_ret;exact ⟨ret_int E.symm,0,rfl⟩
theorem s_v (x:Int) (E:InR x) (w:World):
  Calls Tryz.prog 199 #[.int .i64 x] w fun e A=>e = .returned (.int .i64 (bendI 4 x))/\∃ n,A=w.drewN n:=by
 rw [q_b];by_cases h:x < 0
 ·rw [if_pos h];go_enter Tryz.func199,Tryz.ntmps199;go_wp2_with (go_at_call 217;refine (neg_any x E _).mono ?_;rintro e A ⟨rfl,rfl⟩)
  go_ret;exact ⟨rfl,0,rfl⟩
 ·rw [if_neg h];have H:0<=x:=by omega
  go_enter Tryz.func199,Tryz.ntmps199;go_wp2;go_ret;exact ⟨rfl,0,rfl⟩
theorem s_w (x:Int) (H:InR x) (w:World):
  Calls Tryz.prog 201 #[.int .i64 x] w fun e A=>e = .returned (.int .i64 (bendI 5 x))/\∃ n,A=w.drewN n:=by
 obtain ⟨a,I⟩:∃ a,by2 x=a:=⟨_,rfl⟩
 have R:InR a:=by rw [<- I];exact j_l H
 obtain ⟨b,J⟩:∃ b,hold (a+2147483648)=b:=⟨_,rfl⟩
 obtain ⟨y,M⟩:∃ y,(if b < 0 then 0 else b)=y:=⟨_,rfl⟩
 obtain ⟨z,L⟩:∃ z,(if 4294967296 < y then 4294967296 else y)=z:=⟨_,rfl⟩
 have k1:=m_7 (P:=Tryz.prog) M;have k2:=q_d (P:=Tryz.prog) L;have V:∀ W,Calls Tryz.prog 215 #[.int .i64 2] W fun e A=>e = .returned (.int .i64 8589934592)/\A=W:=fun W=>of_any 2 (by unfold InR;omega) W;have O:=m_H x 8589934592 H (by unfold InR;omega) w;rw [u_B H,I] at O;have Z:∀ W,Calls Tryz.prog 146 #[.int .i64 a,.int .i64 2147483648] W fun e A=>e = .returned (.int .i64 b)/\A=W:=fun W=>by rw [<- J];exact add_any a 2147483648 R (by unfold InR;omega) W
 have E:Hid (bendI 5 x=z):=by
  show _=_;rw [q_c,I,J,<- L,<- M]
  repeat' split
  all_goals omega
 clear M L I J H R;go_enter Tryz.func201,Tryz.ntmps201;go_wp2_with fail
 refine (V _).mono ?_;rintro e w1 ⟨rfl,rfl⟩;go_wp2_with fail
 refine O.mono ?_;rintro e w2 ⟨rfl,m,rfl⟩;go_wp2_with fail
 refine (Z _).mono ?_;rintro e w3 ⟨rfl,rfl⟩;clear V O Z;go_wp2;go_ret;exact ⟨ret_int E.symm,m,rfl⟩
theorem d_0 (x:Int) (b:Bool) (hb:decide (-4294967296 < x/\x < 4294967296)=b) (w:World):
  Calls Tryz.prog 216 #[.int .i64 x] w fun e I=>e = .returned (.bool b)/\I=w:=by
 by_cases A:-4294967296 < x
 ·by_cases E:x < 4294967296
  ·rw [decide_eq_true ⟨A,E⟩] at hb;subst hb;go_enter Tryz.func216,Tryz.ntmps216;go_wp2;go_ret;exact ⟨rfl,rfl⟩
  ·rw [decide_eq_false fun h=>E h.2] at hb;subst hb;have J:4294967296<=x:=by omega
   go_enter Tryz.func216,Tryz.ntmps216;go_wp2;go_ret;exact ⟨rfl,rfl⟩
 ·rw [decide_eq_false fun h=>A h.1] at hb;subst hb;have H:x<=-4294967296:=by omega
  go_enter Tryz.func216,Tryz.ntmps216;go_wp2;go_ret;exact ⟨rfl,rfl⟩
theorem s_x (x:Int) (w:World):
  Calls Tryz.prog 194 #[.int .i64 x] w fun e A=>e = .returned (.int .i64 (d_G 1 x))/\A=w:=by
 rw [r_d];by_cases h:0 < x
 ·rw [if_pos h];go_enter Tryz.func194,Tryz.ntmps194;go_wp2;go_ret;exact ⟨rfl,rfl⟩
 ·rw [if_neg h];have E:x<=0:=by omega
  go_enter Tryz.func194,Tryz.ntmps194;go_wp2;go_ret;exact ⟨rfl,rfl⟩
theorem s_y (x:Int) (w:World):
  Calls Tryz.prog 196 #[.int .i64 x] w fun e A=>e = .returned (.int .i64 (d_G 2 x))/\A=w:=by
 rw [r_e];by_cases h:0 < x
 ·rw [if_pos h];go_enter Tryz.func196,Tryz.ntmps196;go_wp2;go_ret;exact ⟨rfl,rfl⟩
 ·rw [if_neg h];have E:x<=0:=by omega
  go_enter Tryz.func196,Tryz.ntmps196;go_wp2;go_ret;exact ⟨rfl,rfl⟩
theorem s_z (x:Int) (w:World):
  Calls Tryz.prog 198 #[.int .i64 x] w fun e A=>e = .returned (.int .i64 (d_G 3 x))/\A=w:=by
 rw [r_f];by_cases h:-4294967296 < x/\x < 4294967296
 ·rw [if_pos h];have c:=d_0 x true (decide_eq_true h);clear h;go_enter Tryz.func198,Tryz.ntmps198;go_wp2_with (go_at_call 216;refine (c _).mono ?_;rintro e A ⟨rfl,rfl⟩)
  go_ret;exact ⟨rfl,rfl⟩
 ·rw [if_neg h];have c:=d_0 x false (decide_eq_false h);clear h;go_enter Tryz.func198,Tryz.ntmps198;go_wp2_with (go_at_call 216;refine (c _).mono ?_;rintro e A ⟨rfl,rfl⟩)
  go_ret;exact ⟨rfl,rfl⟩
theorem s_A (x:Int) (w:World):
  Calls Tryz.prog 200 #[.int .i64 x] w fun e E=>e = .returned (.int .i64 (d_G 4 x))/\E=w:=by
 rw [r_g];by_cases h:0 < x
 ·rw [if_pos h];go_enter Tryz.func200,Tryz.ntmps200;go_wp2;go_ret;exact ⟨rfl,rfl⟩
 ·rw [if_neg h];have I:x<=0:=by omega
  by_cases A:x < 0
  ·rw [if_pos A];go_enter Tryz.func200,Tryz.ntmps200;go_wp2;go_ret;exact ⟨rfl,rfl⟩
  ·rw [if_neg A];have H:0<=x:=by omega
   go_enter Tryz.func200,Tryz.ntmps200;go_wp2;go_ret;exact ⟨rfl,rfl⟩
theorem s_B (x:Int) (w:World):
  Calls Tryz.prog 202 #[.int .i64 x] w fun e A=>e = .returned (.int .i64 (d_G 5 x))/\A=w:=by
 rw [r_h];by_cases h:-4294967296 < x/\x < 4294967296
 ·rw [if_pos h];have c:=d_0 x true (decide_eq_true h);clear h;go_enter Tryz.func202,Tryz.ntmps202;go_wp2_with (go_at_call 216;refine (c _).mono ?_;rintro e A ⟨rfl,rfl⟩)
  go_ret;exact ⟨rfl,rfl⟩
 ·rw [if_neg h];have c:=d_0 x false (decide_eq_false h);clear h;go_enter Tryz.func202,Tryz.ntmps202;go_wp2_with (go_at_call 216;refine (c _).mono ?_;rintro e A ⟨rfl,rfl⟩)
  go_ret;exact ⟨rfl,rfl⟩
theorem t_L (w:World):
  Calls Tryz.prog 157 #[.int .i64 1] w fun e A=>e = .returned (.tuple #[.agg #[.func (.func 193) #[] #[],.func (.func 194) #[] #[]],.bool true])/\Bw w A:=by
 go_enter Tryz.func157,Tryz.ntmps157;go_wp2;exact bodyPost_ret (v:=.tuple #[.agg #[.func (.func 193) #[] #[],.func (.func 194) #[] #[]],.bool true]) (by simp [results,Tryz.results157,go_sem]) rfl ⟨rfl,by go_grown⟩
theorem t_M (w:World):
  Calls Tryz.prog 157 #[.int .i64 2] w fun e A=>e = .returned (.tuple #[.agg #[.func (.func 195) #[] #[],.func (.func 196) #[] #[]],.bool true])/\Bw w A:=by
 go_enter Tryz.func157,Tryz.ntmps157;go_wp2;exact bodyPost_ret (v:=.tuple #[.agg #[.func (.func 195) #[] #[],.func (.func 196) #[] #[]],.bool true]) (by simp [results,Tryz.results157,go_sem]) rfl ⟨rfl,by go_grown⟩
theorem t_N (w:World):
  Calls Tryz.prog 157 #[.int .i64 3] w fun e A=>e = .returned (.tuple #[.agg #[.func (.func 197) #[] #[],.func (.func 198) #[] #[]],.bool true])/\Bw w A:=by
 go_enter Tryz.func157,Tryz.ntmps157;go_wp2;exact bodyPost_ret (v:=.tuple #[.agg #[.func (.func 197) #[] #[],.func (.func 198) #[] #[]],.bool true]) (by simp [results,Tryz.results157,go_sem]) rfl ⟨rfl,by go_grown⟩
theorem t_O (w:World):
  Calls Tryz.prog 157 #[.int .i64 4] w fun e A=>e = .returned (.tuple #[.agg #[.func (.func 199) #[] #[],.func (.func 200) #[] #[]],.bool true])/\Bw w A:=by
 go_enter Tryz.func157,Tryz.ntmps157;go_wp2;exact bodyPost_ret (v:=.tuple #[.agg #[.func (.func 199) #[] #[],.func (.func 200) #[] #[]],.bool true]) (by simp [results,Tryz.results157,go_sem]) rfl ⟨rfl,by go_grown⟩
theorem t_P (w:World):
  Calls Tryz.prog 157 #[.int .i64 5] w fun e A=>e = .returned (.tuple #[.agg #[.func (.func 201) #[] #[],.func (.func 202) #[] #[]],.bool true])/\Bw w A:=by
 go_enter Tryz.func157,Tryz.ntmps157;go_wp2;exact bodyPost_ret (v:=.tuple #[.agg #[.func (.func 201) #[] #[],.func (.func 202) #[] #[]],.bool true]) (by simp [results,Tryz.results157,go_sem]) rfl ⟨rfl,by go_grown⟩
theorem r_i (k:Int) (A:k < 1∨5 < k) (w:World):
  Calls Tryz.prog 157 #[.int .i64 k] w fun e E=>e = .returned (.tuple #[.agg #[.nilFunc,.nilFunc],.bool false])/\Bw w E:=by
 have I:(k==1)=false:=by simp;omega
 have J:(k==2)=false:=by simp;omega
 have H:(k==3)=false:=by simp;omega
 have M:(k==4)=false:=by simp;omega
 have L:(k==5)=false:=by simp;omega
 clear A;go_enter Tryz.func157,Tryz.ntmps157;go_wp2;exact bodyPost_ret (v:=.tuple #[.agg #[.nilFunc,.nilFunc],.bool false]) (by simp [results,Tryz.results157,go_sem]) rfl ⟨rfl,by go_grown⟩
theorem p_l (k:Int) (I:1<=k/\k<=5):∃ E H:FuncId,(∀ args W,(callFunc E args).run Tryz.prog W = .ok (.enter E args) W)/\(∀ args W,(callFunc H args).run Tryz.prog W = .ok (.enter H args) W)
  /\ (∀ x,InR x->∀ W,Calls Tryz.prog E #[.int .i64 x] W fun e A=>e = .returned (.int .i64 (bendI k x))/\∃ n,A=W.drewN n)/\(∀ x W,Calls Tryz.prog H #[.int .i64 x] W fun e A=>e = .returned (.int .i64 (d_G k x))/\A=W)
  /\ ∀ w,Calls Tryz.prog 157 #[.int .i64 k] w fun e A=>e = .returned (.tuple #[.agg #[.func (.func E) #[] #[],.func (.func H) #[] #[]],.bool true])/\Bw w A:=by
 have:k=1∨k=2∨k=3∨k=4∨k=5:=by omega
 rcases this with rfl|rfl|rfl|rfl|rfl
 ·exact ⟨_,_,fun args W=>by simp [go_sem],fun args W=>by simp [go_sem],s_s,s_x,t_L⟩
 ·exact ⟨_,_,fun args W=>by simp [go_sem],fun args W=>by simp [go_sem],s_t,s_y,t_M⟩
 ·exact ⟨_,_,fun args W=>by simp [go_sem],fun args W=>by simp [go_sem],s_u,s_z,t_N⟩
 ·exact ⟨_,_,fun args W=>by simp [go_sem],fun args W=>by simp [go_sem],s_v,s_A,t_O⟩
 ·exact ⟨_,_,fun args W=>by simp [go_sem],fun args W=>by simp [go_sem],s_w,s_B,t_P⟩
end Go.Proofs.YtkfpainpomobfaaGreatDoor.Fx
namespace Go.Proofs.YtkfpainpomobfaaGreatDoor.Wd
open Go.RowKit Fx List World Nat
def f_u (k:Int) (d x:List Int):Int:=if (1<=k/\k<=5)/\isP d x then 0 else 1
def f_v (k:Int) (d x:List Int):List Int:=if (1<=k/\k<=5)/\isP d x then d else []
def g_h (k:Int) (d x:List Int):List Int:=if (1<=k/\k<=5)/\isP d x then x.map fun y=>Fx.bendI k y else []
theorem q_e (f:Int->Int) (x:List Int) (k:Nat) (h:k < x.length):(x.map f).getD k 0=f (x.getD k 0):=by
 rw [getD_eq_getElem?_getD,getElem?_map,getElem?_eq_getElem h,a_t x k 0 h];rfl
theorem p_m (k:Int) (p p2:Option Addr) (n c H c2:Nat) (d x:List Int) (hd:RI d) (hx:RI x) (w:World) (h1:Nums .i64 w (.slice p n c) d) (h2:Nums .i64 w (.slice p2 H c2) x):
  Calls Tryz.prog 126 #[.int .i64 k,.agg #[.slice p n c,.slice p2 H c2]] w fun e w'=>∃ v',e = .returned (.tuple #[v',.int .i64 (f_u k d x)])/\TRes w' w.heap.size v' (f_v k d x) (g_h k d x)/\Bw w w':=by
 have cA:=fun W (hW:Bw w W)=>b_h _ _ d x hd W (h1.up hW) (h2.up hW);unfold f_u f_v g_h;by_cases hk:1<=k/\k<=5
 ·obtain ⟨K1,K2,e1,e2,f1,f2,cl⟩:=p_l k hk;by_cases hp:isP d x
  ·rw [decide_eq_true hp] at cA;rw [if_pos ⟨hk,hp⟩,if_pos ⟨hk,hp⟩,if_pos ⟨hk,hp⟩];obtain ⟨V,eV⟩:∃ V,(x.map fun y=>Fx.bendI k y)=V:=⟨_,rfl⟩
   rw [eV];have HN:Hid (Nums .i64 w (.slice p n c) d/\Nums .i64 w (.slice p2 H c2) x):=⟨h1,h2⟩
   obtain ⟨_,_,_,e4,HX⟩:=h2.lst;cases e4;have am:x.length<=4096:=by rw [hp.2];exact hp.1.2.2
   rw [HX.1] at am;have aC:(H:Int)<=4096:=by omega
   have HV:Hid ((x.map fun y=>Fx.bendI k y)=V/\V.length=H/\isP d x/\RI x/\x.length=H):=⟨eV,by rw [<- eV,length_map];exact HX.1,hp,hx,HX.1⟩
   have av:Hid _:=f1;clear eV h1 h2 hd hx hp hk f1 f2 e2;go_enter Tryz.func126,Tryz.ntmps126;go_wp2_with fail
   generalize J:alloc _ _=W0;obtain ⟨O,XA,XR⟩:=i_M J;clear J;refine (cl W0).mono ?_;rintro e w1 ⟨rfl,I⟩;have E:=b_5 (a_c O I) I;clear I cl;obtain ⟨a0,a1,_,_⟩:=XA.out.up E.2;have z0:=a_b a0;go_wp2_with fail
   generalize aa:alloc _ _=W2;have B2:Bw w1 W2:=by rw [<- aa];exact a_a w1 _
   have XL:Hid (Cel W2 w1.heap.size (.func (.func K1) #[] #[]) (.func (.func K2) #[] #[])):=by show Cel _ _ _ _;unfold Cel;rw [<- aa];simp [go_sem]
   have R:=b_5 (a_c E.1 B2) (a_c E.2 B2);have HL:Hid _:=E.2.size;obtain ⟨bl,ag⟩:∃ bl,w1.heap.size=bl:=⟨_,rfl⟩
   rw [ag] at XL HL ⊢;clear aa B2;refine (cA W2 R.1).mono ?_;rintro e w3 ⟨rfl,L⟩;have A:Hid (Bw w w3/\Bw W0 w3/\Bw W2 w3):=⟨a_c R.1 L,a_c R.2 L,L⟩
   clear L cA a0 a1 z0;obtain ⟨a0,a1,_,_⟩:=XA.out.up A.2.1;go_wp2_with (at_make;refine a_F l_5 (by decide) _ rfl (.tmp 26) (.tmp 26) rfl .i64 .i64 H H H rfl rfl rfl rfl (by omega) w.heap.size w A.1.size A.1 ?_;intro w4 ah B4 aA;clear aA;have az:=(XA.out.up (a_c A.2.1 B4));obtain ⟨a2,a3,_,_⟩:=az)
   obtain ⟨g,hg⟩:∃ g,w3.heap.size=g:=⟨_,rfl⟩
   have ad:Hid (Bw w w4/\Bw W0 w4/\Bw W2 w4):=⟨a_c A.1 B4,a_c A.2.1 B4,a_c A.2.2 B4⟩
   rw [hg] at ah ⊢;have hz:=a_b XR.1;have Hg:Hid (W0.heap.size<=g/\w.heap.size+1 < W0.heap.size/\bl < g):=⟨by rw [<- hg];exact A.2.1.size,hz,by rw [<- hg];exact Nat.lt_of_lt_of_le (a_b XL.1) A.2.2.size⟩
   have ax:Hid (OwnK .i64 48 w4 g (.slice (some ⟨g,0,none⟩) H H) (b_l V 0)):=by
    show OwnK _ _ _ _ _ _;rw [a_W,HV.2.1];exact ah.out
   clear a0 a1 a2 a3 ah B4 hg hz
   go_loopg [31] H (fun gg i wr=>∃ (k:Nat),k<=H/\gg=H - k/\i = .int .i64 (k:Int)/\Hid (OwnK .i64 48 wr g (.slice (some ⟨g,0,none⟩) H H) (b_l V k))/\Hid (Bw w wr/\Stay g w4 wr))
   case atStart=>exact ⟨0,by omega,by omega,by first|rfl|simp,ax,ad.1,Stay.refl _ _⟩
   case round=>
    obtain ⟨j,hj,hg,rfl,aq,M⟩:=hrel;obtain ⟨R1,aB⟩:∃ R1:World,R1=wr:=⟨_,rfl⟩
    subst aB;by_cases ac:j < H
    ·have aF:(j:Int) < (H:Int):=by omega
     obtain ⟨q,o,rfl,ar⟩:=HX.2 j ac;have an:=a_d ar M.1;have rx:=HV.2.2.2.1.at j (by rw [HV.2.2.2.2];exact ac);obtain ⟨X,eX⟩:∃ X,x.getD j 0=X:=⟨_,rfl⟩
     rw [eX] at an rx;obtain ⟨Z,eZ⟩:∃ Z,Fx.bendI k X=Z:=⟨_,rfl⟩
     have HZ:Hid (V.getD j 0=Z):=by
      show _=_;rw [<- HV.1,q_e _ _ _ (by rw [HV.2.2.2.2];exact ac),eX,eZ]
     have cz:∀ W,Calls Tryz.prog K1 #[.int .i64 X] W fun e w'=>e = .returned (.int .i64 Z)/\∃ n,w'=W.drewN n:=fun W=>by rw [<- eZ];exact av.out X rx W
     have ao:bl≠g:=by have:=Hg.out;omega
     obtain ⟨l0,l1,_,_⟩:=(XL.out.up ad.2.2).stay M.2 ao;have ay:w.heap.size<=g:=by have:=Hg.out;have:=O.size;omega
     clear eX eZ ar ao;go_wp2_with fail
     refine (cz _).mono ?_;rintro e w5 ⟨rfl,m,rfl⟩;have ak:Hid (OwnK .i64 48 (R1.drewN m) g (.slice (some ⟨g,0,none⟩) H H) (b_l V j)):=aq.out.up (l_m _ _);have aj:Hid (Bw w (R1.drewN m)/\Stay g w4 (R1.drewN m)):=⟨a_c M.1 (l_m _ _),M.2.up (l_m _ _)⟩
     obtain ⟨R2,ap⟩:∃ R2:World,R1.drewN m=R2:=⟨_,rfl⟩
     rw [ap] at ak aj ⊢;obtain ⟨aD,aG⟩:=ak.cell (by rw [a_y];exact HV.2.1) j ac
     have H5:Hid (OwnK .i64 48 (R2.setCell ⟨g,j,none⟩ (.int .i64 Z)) g (.slice (some ⟨g,0,none⟩) H H) (b_l V (j+1))):=by
      have:=ak.out.store (by rw [a_y];exact HV.2.1) j Z;rw [<- HZ.out,a_9 V j (by rw [HV.2.1];exact ac)] at this;rw [<- HZ.out];exact this
     have H6:Hid (Bw w (R2.setCell ⟨g,j,none⟩ (.int .i64 Z))/\Stay g w4 (R2.setCell ⟨g,j,none⟩ (.int .i64 Z))):=⟨aj.1.setCell (p:=⟨g,j,none⟩) ay _,aj.2.set _ _⟩
     clear cz l0 l1 an ap;go_wp2;go_roundg (H - (j+1))
     case measure=>omega
     case rel=>exact ⟨j+1,by omega,rfl,by first|rfl|simp,H5,H6⟩
    ·obtain rfl:j=H:=by omega
     have af:w.heap.size≠g:=by have:=Hg.out;omega
     have ae:w.heap.size+1≠g:=by have:=Hg.out;omega
     obtain ⟨a0,a1,_,_⟩:=(XA.out.up ad.2.1).stay M.2 af;have au:=(XR.out.up ad.2.1).stay M.2 ae;have ab:=aq.out;rw [<- HV.2.1,a_0,HV.2.1] at ab;have al:Hid (OwnK .i64 48 R1 g (.slice (some ⟨g,0,none⟩) j j) V):=ab;have cc:=c_m _ d (by have:=HV.2.2.1.1.1;rw [a_O] at this;omega) R1 (HN.1.up M.1);have aw:Hid (Cel R1 (w.heap.size+1) (.slice none 0 0) (.slice none 0 0)):=au;clear ab au af ae;go_wp2_with fail
     refine cc.mono ?_;rintro e w6 ⟨v6,rfl,h6,ai⟩;obtain ⟨p6,n6,c6,rfl,_⟩:=h6.nums.lst
     have HF:Hid (TRes (set2 w6 (w.heap.size+1) (.slice p6 n6 c6) (.slice (some ⟨g,0,none⟩) j j)) w.heap.size (.agg #[.slice p6 n6 c6,.slice (some ⟨g,0,none⟩) j j]) d V/\Bw w (set2 w6 (w.heap.size+1) (.slice p6 n6 c6) (.slice (some ⟨g,0,none⟩) j j))):=by
      have hs:g<=R1.heap.size:=Nat.le_of_lt al.size;exact ⟨(TRes.set (h6.low (Nat.le_trans Hg.1 hs)) ((al.out.up ai).low Hg.1) Hg.2.1).low O.size,a_q (a_c M.1 ai) _ (by omega) _ _⟩
     clear cc h6 a0 a1;have xr:=(aw.out.up ai)
     have cf:=xr.set (.slice p6 n6 c6) (.slice (some ⟨g,0,none⟩) j j);obtain ⟨r0,r1,r2,r3⟩:=xr;obtain ⟨y0,y1,_,_⟩:=cf;go_wp2;exact bodyPost_ret (v:=.tuple #[.agg #[.slice p6 n6 c6,.slice (some ⟨g,0,none⟩) j j],.int .i64 0]) (by simp [results,Tryz.results126,go_sem,y0,y1]) rfl ⟨_,rfl,HF.out⟩
  ·rw [decide_eq_false hp] at cA;rw [if_neg fun h=>hp h.2,if_neg fun h=>hp h.2,if_neg fun h=>hp h.2];clear h1 h2 hd hx hp hk f1 f2 e1 e2;go_enter Tryz.func126,Tryz.ntmps126;go_wp2_with fail
   generalize J:alloc _ _=W0;obtain ⟨O,XA,XR⟩:=i_M J;clear J;refine (cl W0).mono ?_;rintro e w1 ⟨rfl,I⟩;have E:=b_5 (a_c O I) I;clear I cl;obtain ⟨a0,a1,_,_⟩:=XA.out.up E.2;have z0:=a_b a0;go_wp2_with fail
   generalize aa:alloc _ _=W2;have B2:Bw w1 W2:=by rw [<- aa];exact a_a w1 _
   have XL:Hid (Cel W2 w1.heap.size (.func (.func K1) #[] #[]) (.func (.func K2) #[] #[])):=by show Cel _ _ _ _;unfold Cel;rw [<- aa];simp [go_sem]
   have R:=b_5 (a_c E.1 B2) (a_c E.2 B2);have HL:Hid _:=E.2.size;obtain ⟨bl,ag⟩:∃ bl,w1.heap.size=bl:=⟨_,rfl⟩
   rw [ag] at XL HL ⊢;clear aa B2;refine (cA W2 R.1).mono ?_;rintro e w3 ⟨rfl,L⟩;have A:=b_5 (a_c R.1 L) (a_c R.2 L);clear L cA a0 a1 z0;have xr:=(XR.out.up (A).2)
   have BF:=a_q ((A).1) (w.heap.size+1) (by omega) (.slice none 0 0) (.slice none 0 0);have cf:=xr.set (.slice none 0 0) (.slice none 0 0);obtain ⟨r0,r1,r2,r3⟩:=xr;obtain ⟨y0,y1,_,_⟩:=cf;go_wp2;exact brn 1 (by simp [results,Tryz.results126,go_sem,y0,y1]) ⟨_,rfl,TRes.none _ _,BF⟩
 ·have cl:=r_i k (by omega);rw [if_neg fun h=>hk h.1,if_neg fun h=>hk h.1,if_neg fun h=>hk h.1];clear h1 h2 hd hx hk cA;go_enter Tryz.func126,Tryz.ntmps126;go_wp2_with fail
  generalize J:alloc _ _=W0;obtain ⟨O,XA,XR⟩:=i_M J;clear J;refine (cl W0).mono ?_;rintro e w1 ⟨rfl,I⟩;have E:=b_5 (a_c O I) I;clear I cl;have xr:=(XR.out.up E.2)
  have aE:=a_b xr.1;have BF:=a_c (a_q E.1 (w.heap.size+1) (by omega) (.slice none 0 0) (.slice none 0 0)) (a_a _ (.cells #[.nilFunc,.nilFunc] 209));have cf:=(xr.set (.slice none 0 0) (.slice none 0 0)).up (a_a _ (.cells #[.nilFunc,.nilFunc] 209));obtain ⟨r0,r1,r2,r3⟩:=xr;obtain ⟨y0,y1,_,_⟩:=cf;go_wp2;exact brn 1 (by simp [results,Tryz.results126,go_sem,y0,y1]) ⟨_,rfl,TRes.none _ _,BF⟩
abbrev d_H (op:Int):Prop:=op=2∨op=3∨op=4∨op=6∨op=12
abbrev byP (op:Int):Prop:=op=5∨op=8∨op=11∨op=12∨op=13
/-- The table. -/
def rkE (op:Int) (D X D' X':List Int) (k:Int):Int:=
 if op=2∨op=3∨op=4 then c_8 D X D' X' else if op=5 then m_m D X else if op=6 then mE D X D' X' else if op=7 then flE D X else if op=8 then smE D X k
 else if op=9∨op=10 then s_q D X else if op=11 then f_u k D X else if op=12 then rwE D X D' X' k else if op=13 then plE D X k else l_c D X [(X.length:Int)]
def rkD (op:Int) (D X D' X':List Int) (k:Int):List Int:=
 if op=2∨op=3∨op=4 then d_l D X D' X' else if op=5 then m_n D X else if op=6 then mD D X D' X' else if op=7 then flD D X else if op=8 then smD D X k
 else if op=9∨op=10 then [] else if op=11 then f_v k D X else if op=12 then rwD D X D' X' k else if op=13 then plD D X k else m_p D X [(X.length:Int)]
def rkV (op:Int) (D X D' X':List Int) (k:Int):List Int:=
 if op=2 then d_m (fun a b=>Fx.hold (a+b)) D X D' X' else if op=3 then d_m (fun a b=>Fx.hold (a - b)) D X D' X' else if op=4 then d_m Fx.mulI D X D' X' else if op=5 then m_o D X k else if op=6 then mV D X D' X' else if op=7 then flV D X else if op=8 then smV D X k
 else if op=9 then (if isP D X then [t_n D X] else []) else if op=10 then (if isP D X then [o_4 D X] else []) else if op=11 then g_h k D X else if op=12 then rwV D X D' X' k else if op=13 then plV D X k else o_T D X [(X.length:Int)]
/-- A tensor: its numbers are Go's. -/
def f_q (D X:List Int):Prop:=isP D X/\RI D/\RI X
theorem r_j {D:List Int} (h:goodN (ntl D)):RI D:=by
 have:=e_I h.le;rwa [f_N h.2.1] at this
theorem m_8 {D X:List Int} (h:isP D X) (A:RI X):f_q D X:=⟨h,r_j h.1,A⟩
theorem m_9 {J:List Nat} {X:List Int} (h:goodN J) (A:X.length=a_f J):isP (itl J) X:=by
 unfold isP;rw [a_n];exact ⟨h,A⟩
theorem f_r {α:Type} {l:List α} {f:α->Int} (h:∀ a,a∈l->InR (f a)):RI (l.map f):=fun y A=>by
 obtain ⟨a,E,rfl⟩:=mem_map.1 A;exact h a E
theorem n_a {x:List Int} (h:RI x) (i:Nat):InR (x.getD i 0):=by
 rcases Nat.lt_or_ge i x.length with A|A
 ·exact h.at i A
 ·rw [getD_eq_getElem?_getD,getElem?_eq_none A];show InR 0;unfold InR;omega
theorem n_b {op:Int->Int->Int} (L:∀ a b,InR (op a b)) {d x d' y:List Int} (h:c_8 d x d' y=0):f_q (d_l d x d' y) (d_m op d x d' y):=by
 by_cases hp:isP d x/\isP d' y
 ·by_cases A:b_c d d'=0
  ·obtain ⟨a,b,J,H⟩:=q_O hp A;obtain ⟨_,M,I⟩:=H.E (op:=op);rw [M,I];exact m_8 (m_9 H.gJ (by simp)) (f_r fun i _=>L _ _)
  ·rw [(j_X (op:=op) hp A).1] at h;exact absurd h A
 ·rw [(f_6 (op:=op) hp).1] at h;cases h
theorem r_k {d x:List Int} {k:Int} (h:m_m d x=0):f_q (m_n d x) (m_o d x k):=by
 unfold m_m at h;unfold m_n m_o;by_cases hp:isP d x
 ·rw [if_pos hp,if_pos hp];exact m_8 ⟨hp.1,by rw [length_map];exact hp.2⟩ (f_r fun i _=>j_V _ _)
 ·rw [if_neg hp] at h;cases h
theorem s_C {k:Int} {d x:List Int} (A:RI x) (h:f_u k d x=0):f_q (f_v k d x) (g_h k d x):=by
 unfold f_u at h;unfold f_v g_h;by_cases hp:(1<=k/\k<=5)/\isP d x
 ·rw [if_pos hp,if_pos hp];exact m_8 ⟨hp.2.1,by rw [length_map];exact hp.2.2⟩ (f_r fun i E=>p_k (A i E))
 ·rw [if_neg hp] at h;cases h
theorem t_Q {d x d':List Int} (E:RI x) (h:l_c d x d'=0):f_q (m_p d x d') (o_T d x d'):=by
 unfold l_c at h;unfold m_p o_T;by_cases hp:isP d x/\goodN (ntl d')
 ·rw [if_pos hp] at h;by_cases A:a_f (ntl d')=x.length
  ·rw [if_pos ⟨hp,A⟩,if_pos ⟨hp,A⟩];exact m_8 ⟨hp.2,A.symm⟩ E
  ·rw [if_neg A] at h;cases h
 ·rw [if_neg hp] at h;cases h
theorem s_D (v:Int):isP [] [v]:=by
 unfold isP;refine ⟨⟨by simp [ntl],fun y A=>by simp [ntl] at A,by simp [ntl,a_f]⟩,by simp [ntl,a_f]⟩
theorem s_E {d x:List Int} (v:Int) (E:InR v):f_q [] [v]:=m_8 (s_D v) fun y A=>by
 simp at A;subst A;exact E
theorem p_n (d x:List Int):InR (t_n d x):=by
 unfold t_n
 split
 ·exact b_6 _
 ·unfold InR;omega
theorem n_c (d x:List Int):InR (o_4 d x):=by
 unfold o_4 s_l
 split
 ·exact b_6 _
 ·unfold InR;omega
theorem u_I {d x:List Int} (I:RI x) (h:flE d x=0):f_q (flD d x) (flV d x):=by
 unfold flE at h;unfold flD flV;by_cases hp:isP d x
 ·rw [if_pos hp] at h;by_cases A:d.length=2
  ·rw [if_pos ⟨hp,A⟩,if_pos ⟨hp,A⟩];obtain ⟨E,H,rfl,O,M,L,J⟩:=b_G hp A;show f_q [(H:Int),(E:Int)] (o_Y E H x);refine m_8 (m_N (by unfold o_Y;simp [Nat.mul_comm]) L M (by rw [Nat.mul_comm];exact J)) ?_;unfold o_Y;exact f_r fun i _=>n_a I _
  ·rw [if_neg A] at h;cases h
 ·rw [if_neg hp] at h;cases h
theorem m_g {d x d' y:List Int} (h:mE d x d' y=0):f_q (mD d x d' y) (mV d x d' y):=by
 unfold mE at h;unfold mD mV;by_cases hp:isP d x/\isP d' y
 ·rw [if_pos hp] at h;by_cases H:mP d x d' y
  ·rw [if_pos H] at h;by_cases J:mG d d'
   ·rw [if_pos ⟨H,J⟩,if_pos ⟨H,J⟩];obtain ⟨A,C,rfl,_⟩:=b_G H.1.1 H.2.2.1;obtain ⟨L,E,rfl,_⟩:=b_G H.1.2 H.2.1;show f_q [(A:Int),(E:Int)] (t_l A C E x y);have I:=t_j.1 J;refine m_8 (m_N (by unfold t_l;simp) I.1 I.2.1 I.2.2) ?_;unfold t_l;exact f_r fun i _=>by unfold u_z rnd;exact b_6 _
   ·rw [if_neg J] at h;cases h
  ·rw [if_neg H] at h;cases h
 ·rw [if_neg hp] at h;cases h
theorem u_J {d x:List Int} {A:Int} (h:smE d x A=0):f_q (smD d x A) (smV d x A):=by
 unfold smE at h;unfold smD smV;by_cases hp:smP d x A
 ·rw [if_pos hp,if_pos hp];have I:=hp.1.1
  have H:A.toNat < (ntl d).length:=by
   have:=hp.2;rw [a_O];omega
  have E:goodN (a_R (ntl d) A.toNat):=c_X I _ H;refine m_8 (m_9 E (by unfold m_y;simp)) ?_;unfold m_y;exact f_r fun i _=>by unfold t_m;exact b_6 _
 ·rw [if_neg hp] at h;cases h
theorem u_K {d x d' y:List Int} {st:Int} (h:rwE d x d' y st=0):f_q (rwD d x d' y st) (rwV d x d' y st):=by
 unfold rwE at h;unfold rwD rwV;by_cases hp:rwA d x d' y st
 ·rw [if_pos hp] at h;by_cases A:rwS d d'
  ·rw [if_pos A] at h;rw [if_pos ⟨hp,A⟩,if_pos ⟨hp,A⟩];unfold m_0 at h;by_cases E:goodN (ntl (rwO d d' st))
   ·unfold l_j;rw [if_pos E,if_pos E];obtain ⟨O,C,W,rfl,_⟩:=e_l hp.2.1 A.2.1;refine m_8 ⟨E,?_⟩ ?_
    ·rw [i_q];exact (c_9 O _).symm
    ·unfold g_e;exact f_r fun i _=>by unfold j_j rnd;exact b_6 _
   ·rw [if_neg E] at h;cases h
  ·rw [if_neg A] at h;cases h
 ·rw [if_neg hp] at h;cases h
theorem u_L {d x:List Int} {wd:Int} (M:RI x) (h:plE d x wd=0):f_q (plD d x wd) (plV d x wd):=by
 unfold plE at h;unfold plD plV;by_cases hp:isP d x
 ·rw [if_pos hp] at h;by_cases E:d.length=2
  ·rw [if_pos E] at h;by_cases I:plW d wd
   ·rw [if_pos ⟨hp,E,I⟩,if_pos ⟨hp,E,I⟩];obtain ⟨H,A,rfl,hl,L,Z,O⟩:=b_G hp E;have V:1<=wd/\wd<=(A:Int):=I;obtain ⟨W,rfl⟩:∃ W:Nat,wd=W:=⟨wd.toNat,by omega⟩
    show f_q [(H:Int),((A / W:Nat):Int)] (g_A H A (A / W) W x);have R:1<=A / W:=div_pos (by omega) (by omega);have J:H*(A / W)<=4096:=Nat.le_trans (mul_le_mul_left H (div_le_self A W)) O;refine m_8 (m_N (g_f _ _ _ _ _) L R J) ?_;unfold g_A;exact f_r fun i _=>n_a M _
   ·rw [if_neg I] at h;cases h
  ·rw [if_neg E] at h;cases h
 ·rw [if_neg hp] at h;cases h
theorem u_M {op:Int} (I:2<=op) (J:op<=14) {D X D' X':List Int} {k:Int} (H:RI X) (h:rkE op D X D' X' k=0):f_q (rkD op D X D' X' k) (rkV op D X D' X' k):=by
 have E:op=2∨op=3∨op=4∨op=5∨op=6∨op=7∨op=8∨op=9∨op=10∨op=11∨op=12∨op=13∨op=14:=by omega
 rcases E with rfl|rfl|rfl|rfl|rfl|rfl|rfl|rfl|rfl|rfl|rfl|rfl|rfl
 ·exact n_b (fun a b=>b_6 _) h
 ·exact n_b (fun a b=>b_6 _) h
 ·exact n_b (fun a b=>j_V a b) h
 ·exact r_k h
 ·exact m_g h
 ·exact u_I H h
 ·exact u_J h
 ·have hp:isP D X:=by
   by_cases hp:isP D X
   ·exact hp
   ·have A:s_q D X=0:=h;unfold s_q at A;rw [if_neg hp] at A;cases A
  show f_q [] (if isP D X then [t_n D X] else []);rw [if_pos hp];exact s_E (d:=D) (x:=X) _ (p_n D X)
 ·have hp:isP D X:=by
   by_cases hp:isP D X
   ·exact hp
   ·have A:s_q D X=0:=h;unfold s_q at A;rw [if_neg hp] at A;cases A
  show f_q [] (if isP D X then [o_4 D X] else []);rw [if_pos hp];exact s_E (d:=D) (x:=X) _ (n_c D X)
 ·exact s_C H h
 ·exact u_K h
 ·exact u_L H h
 ·exact t_Q H h
/-- A number of parts as an int: what is too far off is none that may be. -/
def whI (k:Int):Int:=if k < -1000000∨1000000 < k then -1000000 else k
theorem t_R {D X:List Int} {k:Int} (hp:isP D X):smE D X (whI k)=smE D X k/\smD D X (whI k)=smD D X k/\smV D X (whI k)=smV D X k:=by
 unfold whI
 split
 ·rename_i I
  have H:=hp.1.1;rw [a_O] at H;have A:¬ smP D X (-1000000):=fun h=>by have:=h.2;omega
  have E:¬ smP D X k:=fun h=>by have:=h.2;omega
  unfold smE smD smV;rw [if_neg A,if_neg E,if_neg A,if_neg E,if_neg A,if_neg E];exact ⟨rfl,rfl,rfl⟩
 ·exact ⟨rfl,rfl,rfl⟩
theorem r_l {D X:List Int} {k:Int}:f_u (whI k) D X=f_u k D X/\f_v (whI k) D X=f_v k D X/\g_h (whI k) D X=g_h k D X:=by
 unfold whI
 split
 ·rename_i H
  have A:¬ ((1<=(-1000000:Int)/\(-1000000:Int)<=5)/\isP D X):=fun h=>by have:=h.1;omega
  have E:¬ ((1<=k/\k<=5)/\isP D X):=fun h=>by have:=h.1;omega
  unfold f_u f_v g_h;rw [if_neg A,if_neg E,if_neg A,if_neg E,if_neg A,if_neg E];exact ⟨rfl,rfl,rfl⟩
 ·exact ⟨rfl,rfl,rfl⟩
theorem t_S {D X D' X':List Int} {k:Int}:rwE D X D' X' (whI k)=rwE D X D' X' k/\rwD D X D' X' (whI k)=rwD D X D' X' k/\rwV D X D' X' (whI k)=rwV D X D' X' k:=by
 unfold whI
 split
 ·rename_i H
  have A:¬ rwA D X D' X' (-1000000):=fun h=>by have:=h.2.2;omega
  have E:¬ rwA D X D' X' k:=fun h=>by have:=h.2.2;omega
  unfold rwE rwD rwV;rw [if_neg A,if_neg E,if_neg (fun h=>A h.1),if_neg (fun h=>E h.1),if_neg (fun h=>A h.1),if_neg (fun h=>E h.1)];exact ⟨rfl,rfl,rfl⟩
 ·exact ⟨rfl,rfl,rfl⟩
theorem t_T {D X:List Int} {k:Int} (hp:isP D X):plE D X (whI k)=plE D X k/\plD D X (whI k)=plD D X k/\plV D X (whI k)=plV D X k:=by
 unfold whI
 split
 ·rename_i Z
  have L:D.length=2->D.getD 1 0<=4096:=fun A=>by
   obtain ⟨R,J,rfl,V,O,I,M⟩:=b_G hp A;have:=(d_C M O I).2;show (J:Int)<=4096;omega
  have E:D.length=2->¬ plW D (-1000000):=fun A h=>by have:=h.1;omega
  have H:D.length=2->¬ plW D k:=fun A h=>by have:=h;have:=L A;omega
  unfold plE plD plV;by_cases A:D.length=2
  ·rw [if_pos hp,if_pos hp,if_pos A,if_pos A,if_neg (E A),if_neg (H A),if_neg (fun h=>E A h.2.2),if_neg (fun h=>H A h.2.2),if_neg (fun h=>E A h.2.2),if_neg (fun h=>H A h.2.2)];exact ⟨rfl,rfl,rfl⟩
  ·rw [if_pos hp,if_pos hp,if_neg A,if_neg A,if_neg (fun h=>A h.2.1),if_neg (fun h=>A h.2.1),if_neg (fun h=>A h.2.1),if_neg (fun h=>A h.2.1)];exact ⟨rfl,rfl,rfl⟩
 ·exact ⟨rfl,rfl,rfl⟩
def e_T (ns:List Nd) (d x:List Int):Int:=if 512<=ns.length then 2 else if isP d x then 0 else 1
def f_f (ns:List Nd) (d x:List Int):Int:=if ns.length < 512/\isP d x then (ns.length:Int) else 0
def e_o (ns:List Nd) (d x:List Int):List Nd:=if ns.length < 512/\isP d x then ns++[⟨1,-1,-1,0,d,x⟩] else ns
theorem OwnK.form_ {e:TypeId} {W:World} {B:Nat} {v:Value} {l:List Int} (h:OwnK .i64 e W B v l):∃ p n c,v = .slice p n c:=by
 obtain ⟨p,n,c,e,_⟩:=h.nums.lst;exact ⟨p,n,c,e⟩
theorem f_g {e:TypeId} {W:World} {B n:Nat} {v:Value} {E:List Value} (h:W.ownsRow B e 6 v n E):∀ j,v.ownBlock=some j->B<=j:=fun j A=>(ownsRow.lt h j A).1
theorem s_F {w A:World} {a b c d e f:Value} (h:((w.alloc (.cells #[a,b] 50)).alloc (.cells #[c,d] 50)).alloc (.cells #[e,f] 50)=A):Hid (Bw w A)/\Hid (Cel A w.heap.size a b)/\Hid (Cel A (w.heap.size+1) c d)/\Hid (Cel A (w.heap.size+2) e f):=⟨p_0 (w:=w) h (by go_grown),e_W h (by simp [go_sem]),e_W h (by simp [go_sem]),e_W h (by simp [go_sem])⟩
def ndN (ns:List Nd) (i:Int):Nd:=ns.getD i.toNat ⟨0,0,0,0,[],[]⟩
abbrev okD (ns:List Nd) (op a b:Int):Prop:=(2<=op/\op<=14)/\(0<=a/\a < (ns.length:Int))/\(d_H op->0<=b/\b < (ns.length:Int))
def dB (op b:Int):Int:=if d_H op then b else -1
def dK (op k:Int):Int:=if byP op then k else 0
def dD (ns:List Nd) (op b:Int):List Int:=if d_H op then (ndN ns b).D else []
def dX (ns:List Nd) (op b:Int):List Int:=if d_H op then (ndN ns b).X else []
def dE (ns:List Nd) (op a b k:Int):Int:=rkE op (ndN ns a).D (ndN ns a).X (dD ns op b) (dX ns op b) (dK op k)
def dN (ns:List Nd) (op a b k:Int):Nd:=⟨op,a,dB op b,dK op k,rkD op (ndN ns a).D (ndN ns a).X (dD ns op b) (dX ns op b) (dK op k),rkV op (ndN ns a).D (ndN ns a).X (dD ns op b) (dX ns op b) (dK op k)⟩
def doE (ns:List Nd) (op a b k:Int):Int:=if 512<=ns.length then 2 else if okD ns op a b then dE ns op a b k else 1
abbrev doP (ns:List Nd) (op a b k:Int):Prop:=(ns.length < 512/\okD ns op a b)/\dE ns op a b k=0
def doR (ns:List Nd) (op a b k:Int):Int:=if doP ns op a b k then (ns.length:Int) else 0
def doN (ns:List Nd) (op a b k:Int):List Nd:=if doP ns op a b k then ns++[dN ns op a b k] else ns
def NodesG (ns:List Nd):Prop:=∀ nd,nd∈ns->f_q nd.D nd.X
theorem g_i {W:World} {b:Nat} {H A E L I J:Value} {e:TypeId} (h:W.heap[b]?=some (.cells #[H,A,E,L,I,J] e (0,0))):
  (W.cell? ⟨b,0,none⟩=some H/\W.cell? ⟨b,1,none⟩=some A/\W.cell? ⟨b,2,none⟩=some E/\W.cell? ⟨b,3,none⟩=some L/\W.cell? ⟨b,4,none⟩=some I/\W.cell? ⟨b,5,none⟩=some J)/\∀ j,W.frozen? ⟨b,j,none⟩=false:=by
 have c:∀ j v,#[H,A,E,L,I,J][j]?=some v->W.cell? ⟨b,j,none⟩=some v:=fun j v M=>by
  unfold cell?;simp only [h];exact M
 refine ⟨⟨c 0 _ rfl,c 1 _ rfl,c 2 _ rfl,c 3 _ rfl,c 4 _ rfl,c 5 _ rfl⟩,fun j=>?_⟩;unfold frozen?;simp [h]
theorem l_n {ns:List Nd} {i:Nat} {nd:Nd} (h:ns[i]?=some nd):ndN ns (i:Int)=nd:=by
 unfold ndN;rw [show ((i:Int)).toNat=i from rfl,getD_eq_getElem?_getD,h];rfl
theorem i_v {ns:List Nd} {i:Nat} {nd:Nd} (h:ns[i]?=some nd):nd∈ns:=mem_of_getElem? h
theorem NodesG.nil:NodesG []:=fun nd h=>by simp at h
theorem NodesG.push {ns:List Nd} {nd:Nd} (h:NodesG ns) (E:f_q nd.D nd.X):NodesG (ns++[nd]):=fun x A=>by
 rcases mem_append.1 A with A|A
 ·exact h x A
 ·simp at A;subst A;exact E
theorem NodesG.leaf {ns:List Nd} {d x:List Int} (h:NodesG ns) (A:RI x):NodesG (e_o ns d x):=by
 unfold e_o
 split
 ·rename_i hp
  exact h.push (m_8 hp.2 A)
 ·exact h
theorem NodesG.at {ns:List Nd} {i:Int} (h:NodesG ns) (H:0<=i) (E:i < (ns.length:Int)):f_q (ndN ns i).D (ndN ns i).X:=by
 obtain ⟨j,rfl⟩:∃ j:Nat,i=j:=⟨i.toNat,by omega⟩
 have A:ns[j]?=some (ns[j]'(by omega)):=getElem?_eq_getElem _;rw [l_n A];exact h _ (i_v A)
theorem NodesG.do {ns:List Nd} {op a b k:Int} (h:NodesG ns):NodesG (doN ns op a b k):=by
 unfold doN
 split
 ·rename_i hp
  have A:=hp.1.2;refine h.push ?_;exact u_M A.1.1 A.1.2 (h.at A.2.1.1 A.2.1.2).2.2 hp.2
 ·exact h
def TapC (W:World) (B b:Nat) (ns:List Nd):Prop:=Tap 72 52 W B b ns
abbrev SC:List TypeId:=[72,52]
theorem TapC.up {W W':World} {B b:Nat} {ns:List Nd} (h:TapC W B b ns) (A:Bw W W'):TapC W' B b ns:=Tap.up h A
theorem p_o:52≠72:=by decide
def Spare (tb:Nat) (w w':World):Prop:=∀ x v,w.heap[tb]?=some (.cells #[v] 72 (0,0))->x≠tb->x < w.heap.size->v.ownBlock≠some x->w'.heap[x]?=w.heap[x]?/\∃ v',w'.heap[tb]?=some (.cells #[v'] 72 (0,0))/\v'.ownBlock≠some x
theorem Spare.of {E:Nat} {w H:World} (h:Bw w H):Spare E w H:=fun x v A _ I J=>⟨h.block x I,v,(h.block E (a_k A)).trans A,J⟩
theorem Spare.trans {A:Nat} {a b c:World} (h:Spare A a b) (V:Spare A b c):Spare A a c:=fun x v M L J R=>by
 obtain ⟨I,O,H,E⟩:=h x v M L J R
 have hb:x < b.heap.size:=by
  rw [Array.getElem?_eq_getElem J] at I;exact a_k I
 obtain ⟨Z,r⟩:=V x O H L hb E;exact ⟨Z.trans I,r⟩
/-- No node's dims lie in block x. -/
def AvT (x:Nat) (W:World) (tb:Nat):Prop:=∃ v,W.heap[tb]?=some (.cells #[v] 72 (0,0))/\∀ g m c,v = .slice (some ⟨g,0,none⟩) m c->g < W.heap.size/\∀ i,i < m->∀ ad m' c',W.cell? ⟨g,i*6+4,none⟩=some (.slice (some ad) m' c')->ad.block≠x
def SpA (H tb:Nat) (w w':World):Prop:=∀ x,x < H->AvT x w tb->AvT x w' tb
theorem AvT.up {x A:Nat} {W W':World} (h:AvT x W A) (E:Bw W W'):AvT x W' A:=by
 obtain ⟨v,H,h⟩:=h;refine ⟨v,(E.block A (a_k H)).trans H,fun g m c e=>?_⟩;obtain ⟨I,M⟩:=h g m c e;refine ⟨Nat.lt_of_lt_of_le I E.size,fun i L O R V J=>M i L O R V ?_⟩;unfold cell? at J ⊢;rw [<- E.block g I];exact J
theorem r_m {w6 w8:World} {B J N Z c8 H x:Nat} {pL:Option Addr} {A u:List Value} {s:Value} (ae:w6.heap[J]?=some (.cells #[.slice pL N Z] 72 (0,0))) (V:w6.ownsRow B 52 6 (.slice pL N Z) N A) (hl:A.length=N*6) (M:w8.heap[J]?=some (.cells #[.slice pL N Z] 72 (0,0)))
  (E:w8.ownsRow B 52 6 (.slice (some ⟨H,0,none⟩) (N+1) c8) (N+1) (A++u)) (hu:u[4]?=some s) (hs:∀ L m c,s = .slice (some L) m c->L.block≠x) (I:AvT x w6 J):AvT x (w8.setCell ⟨J,0,none⟩ (.slice (some ⟨H,0,none⟩) (N+1) c8)) J:=by
 obtain ⟨v,hv,I⟩:=I;rw [ae] at hv;cases hv;have aa:H≠J:=fun e=>b_U p_o M E (by rw [<- e];rfl);refine ⟨_,(a_l M).trans rfl,fun g m c e=>?_⟩;cases e;refine ⟨by have:=(ownsRow.lt E H rfl).2;simpa using this,fun i hi L m' c' hc=>?_⟩
 have O:w8.cell? ⟨H,i*6+4,none⟩=some (.slice (some L) m' c'):=by
  unfold cell? at hc ⊢;rw [a_1 _ _ _ _ _ aa] at hc;exact hc
 by_cases ab:i < N
 ·have hj:i*6+4 < A.length:=by omega
  obtain ⟨z,hz⟩:∃ z,A[i*6+4]?=some z:=⟨_,getElem?_eq_getElem hj⟩
  have R:=E.cells (g:=H) rfl (i*6+4) z (by rw [getElem?_append_left hj];exact hz);rw [a_r,Nat.zero_add,O] at R;cases R;rcases V.2 with ⟨h0,h1⟩|⟨g,af,ag,hv,hb,hg,rest⟩
  ·omega
  ·cases hv;have h6:=V.cells (g:=g) rfl (i*6+4) _ hz;rw [a_r,Nat.zero_add] at h6;exact (I g N Z rfl).2 i ab L m' c' h6
 ·have ac:i=N:=by omega
  subst ac;have R:=E.cells (g:=H) rfl (i*6+4) s (by rw [getElem?_append_right (by omega),hl,Nat.add_sub_cancel_left];exact hu);rw [a_r,Nat.zero_add,O] at R;cases R;exact hs L m' c' rfl
theorem n_d {W:World} {H I M:Nat} {J:Option Addr} {D:List Int} (h:OwnK .i64 3 W H (.slice J I M) D):∀ A m c,Value.slice J I M = .slice (some A) m c->H<=A.block:=fun A m c e=>by
 rcases h.2 with ⟨L,_⟩|⟨g,R,O,E,hb,_⟩
 ·rw [e] at L;cases L
 ·rw [e] at E;cases E;exact hb
theorem n_e {W:World} {H J E x:Nat} {I:Option Addr} {D:List Int} (h:OwnK .i64 3 W H (.slice I J E) D) (L:x < H):∀ A m c,Value.slice I J E = .slice (some A) m c->A.block≠x:=fun A m c e=>by
 have:=n_d h A m c e;omega
/-- What a tape's change leaves to others. -/
def Spar2 (tb:Nat) (w w':World):Prop:=Spare tb w w'/\SpA w.heap.size tb w w'
theorem Spar2.of {E:Nat} {w A:World} (h:Bw w A):Spar2 E w A:=⟨Spare.of h,fun x _ H=>H.up h⟩
theorem Spar2.trans {A:Nat} {a b c:World} (h:Spar2 A a b) (H:Spar2 A b c) (I:a.heap.size<=b.heap.size):Spar2 A a c:=⟨h.1.trans H.1,fun x E J=>H.2 x (Nat.lt_of_lt_of_le E I) (h.2 x E J)⟩
theorem Spar2.kept {E O J:Nat} {M:Option Addr} {D:List Int} {w A I:World} (h:Bw w A) (L:Spare E A I/\∀ H,OwnK .i64 3 A H (.slice M O J) D->SpA H E A I) (V:OwnK .i64 3 A w.heap.size (.slice M O J) D):Spar2 E w I:=
 ⟨(Spare.of h).trans L.1,fun x R Z=>L.2 _ V x R (Z.up h)⟩
/-- A node's dims lie below the heap's end. -/
theorem TapC.av {W:World} {B H x:Nat} {ns:List Nd} (h:TapC W B H ns) (hx:W.heap.size<=x):AvT x W H:=by
 obtain ⟨p,c,xs,V,I,O,_⟩:=Tap.head h;refine ⟨_,V,fun g m c' e=>?_⟩;cases e;refine ⟨(ownsRow.lt I g rfl).2,fun i Z ad m' aa R=>?_⟩;obtain ⟨q,nd,s,t,e,_,_,_,_,_,J,_,M,_⟩:=b_x I O rfl i Z;cases e;rw [R] at J;cases J;rcases M.2 with ⟨h0,_⟩|⟨g2,L,ab,E,_,A,_⟩
 ·cases h0
 ·cases E;have:=a_k A;intro e;have e':g2=x:=e;omega
/-- A row of ints of another's may grow. -/
theorem TapC.beside {W W':World} {B tb r:Nat} {ns:List Nd} {cs:Array Value} {fz:Nat×Nat} (h:TapC W B tb ns) (hg:W.grownBy W' (some r)) (hr:W.heap[r]?=some (.cells cs 3 fz)) (ha:AvT r W tb):TapC W' B tb ns:=by
 have hk:∀ (k:Nat) (M:Array Value) (e:TypeId) (J:Nat×Nat),W.heap[k]?=some (.cells M e J)->e≠3->W'.heap[k]?=some (.cells M e J):=fun k M e J R h2=>by
  rw [hg.block k (a_k R) (fun e'=>by cases e';rw [hr] at R;cases R;exact h2 rfl)];exact R
 obtain ⟨hb,v,xs,hv,ho,hn⟩:=h
 have aa:W'.ownsRow B 52 6 v ns.length xs:=by
  refine ⟨ho.1,?_⟩;rcases ho.2 with hn|⟨g,A,E,hv,hb,hg,rest⟩
  ·exact .inl hn
  ·exact .inr ⟨g,A,E,hv,hb,hk _ _ _ _ hg (by decide),rest⟩
 refine ⟨hb,v,xs,hk _ _ _ _ hv (by decide),aa,hn.1,fun i nd hi=>?_⟩;obtain ⟨s,t,e,hs,ht⟩:=hn.2 i nd hi;refine ⟨s,t,e,⟨hs.1,?_⟩,⟨ht.1,?_⟩⟩
 ·rcases hs.2 with O|⟨g,A,E,H,L,I,rest⟩
  ·exact .inl O
  ·refine .inr ⟨g,A,E,H,L,?_,rest⟩;rw [hg.block g (a_k I) (fun e'=>?_)]
   ·exact I
   ·cases e';obtain ⟨v',V,ad⟩:=ha;rw [hv] at V;cases V
    have ac:i < ns.length:=by
     rcases Nat.lt_or_ge i ns.length with h|h
     ·exact h
     ·rw [getElem?_eq_none h] at hi;cases hi
    have hx:xs[i*6+4]?=some s:=by
     have Z:((xs.drop (i*6)).take 6)[4]?=some s:=by rw [e];rfl
     rw [getElem?_take] at Z
     split at Z
     ·rw [getElem?_drop] at Z;exact Z
     ·cases Z
    rcases ho.2 with ⟨_,R⟩|⟨g2,ae,af,ab,_,_,_⟩
    ·omega
    ·subst ab;have h6:=ho.cells (g:=g2) rfl (i*6+4) _ hx;rw [a_r,Nat.zero_add,H] at h6;exact (ad g2 _ _ rfl).2 i ac _ _ _ h6 rfl
 ·rcases ht.2 with O|⟨g,A,E,H,L,I,rest⟩
  ·exact .inl O
  ·exact .inr ⟨g,A,E,H,L,hk _ _ _ _ I (by decide),rest⟩
theorem AvT.beside {W W':World} {J r x B:Nat} {ns:List Nd} {cs:Array Value} {fz:Nat×Nat} (h:AvT x W J) (hT:TapC W B J ns) (hg:W.grownBy W' (some r)) (hr:W.heap[r]?=some (.cells cs 3 fz)):AvT x W' J:=by
 obtain ⟨v,V,h⟩:=h;have H:∀ (k:Nat) (I:Array Value) (e:TypeId) (E:Nat×Nat),W.heap[k]?=some (.cells I e E)->e≠3->W'.heap[k]?=W.heap[k]?:=fun k I e E L O=>hg.block k (a_k L) (fun e'=>by cases e';rw [hr] at L;cases L;exact O rfl);refine ⟨v,(H _ _ _ _ V (by decide)).trans V,fun g m c e=>?_⟩;obtain ⟨R,O⟩:=h g m c e;refine ⟨Nat.lt_of_lt_of_le R hg.size,fun i hi ad m' c' hc=>O i hi ad m' c' ?_⟩;obtain ⟨p,c2,xs,A,ho,_,_⟩:=Tap.head hT;rw [V] at A;cases A;cases e;rcases ho.2 with ⟨h0,_⟩|⟨g2,Z,aa,A,_,M,_⟩
 ·cases h0
 ·cases A;unfold cell? at hc ⊢;rw [<- H _ _ _ _ M (by decide)];exact hc
/-- A row of nodes of one's own, and where it lies. -/
def OwnL (e:TypeId) (B n:Nat) (xs:List Value) (r:Option Nat) (H:Nat) (v:Value) (W:World):Prop:=OwnN e B n xs v W/\∃ g c,v = .slice (some ⟨g,0,none⟩) n c/\(r=some g∨H<=g)
theorem OwnL.up {e:TypeId} {B n:Nat} {A:List Value} {r:Option Nat} {H:Nat} {v:Value} {W W':World} (h:OwnL e B n A r H v W) (E:Bw W W'):OwnL e B n A r H v W':=⟨OwnN.up h.1 E,h.2⟩
theorem t_U:StT Tryz.prog 70 52 80:=⟨Tryz.underlying70,by kernel_rfl⟩
/-- append of one node that a literal holds, and where the row lies then. -/
theorem u_N {P:Program} {t e:TypeId} {b:Nat} (T:StT P t e b) (hb:b<=128) (R:TypeId) (W:World) (B:Nat) (v:Value) (n:Nat) (M:List Value) (ho:W.ownsRow B e 6 v n M) (g:Nat) (u:List Value) (hg:W.heap[g]?=some (.cells u.toArray e (0,0))) (hu:u.length=6) (V:∀ x∈u,x.oneCell'=true) (hn:n+1<=1073741824) (Z:B<=W.heap.size):
  ∃ H A L,(Builtin.append_ #[t,t] R #[v,.slice (some ⟨g,0,none⟩) 1 1]).run P W = .ok (.slice (some ⟨H,0,none⟩) (n+1) A) L/\L.ownsRow B e 6 (.slice (some ⟨H,0,none⟩) (n+1) A) (n+1) (M++u)/\W.grownBy L v.ownBlock/\(v.ownBlock=some H∨H=W.heap.size):=by
 have I:=T.hi;cases h:P.info? e with
 | none=>rw [h] at I;cases I
 | some i=>
  rw [h] at I;simp only [Option.map_some,Option.some.injEq,Prod.mk.injEq] at I;obtain ⟨J,hs,O⟩:=I;cases E:i.zero with
  | none=>rw [E] at J;cases J
  | some z=>
   rw [E] at J;simp only [Option.map_some,Option.some.injEq] at J;have hm:=Nat.mul_le_mul hn hb
   obtain ⟨H,A,L,hr,h2,h3,h4,_⟩:=run_append_lies (P:=P) W t R B e i z 6 b T.ht h E hs O J (by decide) v n M ho ⟨g,0,none⟩ 1 1 u (by omega) (fun j x hj=>by
    rw [a_r,Nat.zero_add];unfold cell?;simpa [hg] using hj) V (by omega) (by unfold maxLen;omega) (by omega) Z _ rfl
   exact ⟨H,A,L,hr,h2,h3,h4⟩
theorem k_n (w:World):Calls Tryz.prog 9 #[] w fun e A=>∃ b,e = .returned (.pointer (some ⟨b,0,none⟩))/\TapC A w.heap.size b []/\Bw w A:=by
 go_enter Tryz.func9,Tryz.ntmps9;go_wp2;exact bodyPost_ret (v:=.pointer (some ⟨w.heap.size,0,none⟩)) (by simp [results,Tryz.results9,go_sem]) rfl ⟨_,rfl,Tap.new (Nat.le_refl _),a_a _ _⟩
theorem c_C (B O:Nat) (ns:List Nd) (q:Bool) (R:decide (512<=ns.length)=q) (w:World) (J:TapC w B O ns):Calls Tryz.prog 88 #[.pointer (some ⟨O,0,none⟩)] w fun e w'=>e = .returned (.bool q)/\w'=w:=by
 have I:Hid _:=J;obtain ⟨pL,cL,Z,E,V,M,A⟩:=Tap.head J;obtain ⟨N,H⟩:∃ N,ns.length=N:=⟨_,rfl⟩
 rw [H] at E V A;have L:=(a_P E).1;have hz:=a_k E;rw [H] at R;have aa:decide ((512:Int)<=(N:Int))=q:=by rw [<- R];exact decide_eq_decide.2 (by omega)
 clear J I E V M A H;go_enter Tryz.func88,Tryz.ntmps88;go_wp2;go_ret;exact ⟨rfl,rfl⟩
theorem d_1 (B V:Nat) (ns:List Nd) (i:Int) (q:Bool) (A:decide (0<=i/\i < (ns.length:Int))=q) (w:World) (M:TapC w B V ns):Calls Tryz.prog 29 #[.pointer (some ⟨V,0,none⟩),.int .i64 i] w fun e w'=>e = .returned (.bool q)/\w'=w:=by
 have J:Hid _:=M;obtain ⟨pL,cL,aa,H,Z,R,E⟩:=Tap.head M;obtain ⟨N,I⟩:∃ N,ns.length=N:=⟨_,rfl⟩
 rw [I] at H Z E;have O:=(a_P H).1;have hz:=a_k H;rw [I] at A;clear M J H Z R E I;by_cases h0:i < 0
 ·have L:q=false:=by rw [<- A];exact decide_eq_false (by omega)
  subst L;have d1:decide (0<=i)=false:=decide_eq_false (by omega);clear A h0;go_enter Tryz.func29,Tryz.ntmps29;go_wp2;go_ret;exact ⟨rfl,rfl⟩
 ·have d1:decide (0<=i)=true:=decide_eq_true (by omega);have d2:decide (i < (N:Int))=q:=by rw [<- A];exact decide_eq_decide.2 (by omega)
  clear A h0;go_enter Tryz.func29,Tryz.ntmps29;go_wp2;go_ret;exact ⟨rfl,rfl⟩
theorem g_j (op:Int) (q:Bool) (E:decide (d_H op)=q) (w:World):
  Calls Tryz.prog 91 #[.int .i64 op] w fun e O=>e = .returned (.bool q)/\O=w:=by
 by_cases L:op=2
 ·subst L;have A:q=true:=by rw [<- E];decide
  subst A;clear E;go_enter Tryz.func91,Tryz.ntmps91;go_wp2;go_ret;exact ⟨rfl,rfl⟩
 by_cases J:op=3
 ·subst J;have A:q=true:=by rw [<- E];decide
  subst A;clear E;go_enter Tryz.func91,Tryz.ntmps91;go_wp2;go_ret;exact ⟨rfl,rfl⟩
 by_cases M:op=4
 ·subst M;have A:q=true:=by rw [<- E];decide
  subst A;clear E;go_enter Tryz.func91,Tryz.ntmps91;go_wp2;go_ret;exact ⟨rfl,rfl⟩
 by_cases I:op=6
 ·subst I;have A:q=true:=by rw [<- E];decide
  subst A;clear E;go_enter Tryz.func91,Tryz.ntmps91;go_wp2;go_ret;exact ⟨rfl,rfl⟩
 by_cases H:op=12
 ·subst H;have A:q=true:=by rw [<- E];decide
  subst A;clear E;go_enter Tryz.func91,Tryz.ntmps91;go_wp2;go_ret;exact ⟨rfl,rfl⟩
 have Z:(op==2)=false:=by simpa using L
 have g3:(op==3)=false:=by simpa using J
 have V:(op==4)=false:=by simpa using M
 have g6:(op==6)=false:=by simpa using I
 have R:(op==12)=false:=by simpa using H
 have A:q=false:=by rw [<- E];exact decide_eq_false (by omega)
 subst A;clear E L J M I H;go_enter Tryz.func91,Tryz.ntmps91;go_wp2;go_ret;exact ⟨rfl,rfl⟩
theorem i_w (op:Int) (q:Bool) (E:decide (byP op)=q) (w:World):
  Calls Tryz.prog 92 #[.int .i64 op] w fun e V=>e = .returned (.bool q)/\V=w:=by
 by_cases L:op=5
 ·subst L;have A:q=true:=by rw [<- E];decide
  subst A;clear E;go_enter Tryz.func92,Tryz.ntmps92;go_wp2;go_ret;exact ⟨rfl,rfl⟩
 by_cases M:op=8
 ·subst M;have A:q=true:=by rw [<- E];decide
  subst A;clear E;go_enter Tryz.func92,Tryz.ntmps92;go_wp2;go_ret;exact ⟨rfl,rfl⟩
 by_cases I:op=11
 ·subst I;have A:q=true:=by rw [<- E];decide
  subst A;clear E;go_enter Tryz.func92,Tryz.ntmps92;go_wp2;go_ret;exact ⟨rfl,rfl⟩
 by_cases J:op=12
 ·subst J;have A:q=true:=by rw [<- E];decide
  subst A;clear E;go_enter Tryz.func92,Tryz.ntmps92;go_wp2;go_ret;exact ⟨rfl,rfl⟩
 by_cases H:op=13
 ·subst H;have A:q=true:=by rw [<- E];decide
  subst A;clear E;go_enter Tryz.func92,Tryz.ntmps92;go_wp2;go_ret;exact ⟨rfl,rfl⟩
 have g5:(op==5)=false:=by simpa using L
 have g8:(op==8)=false:=by simpa using M
 have O:(op==11)=false:=by simpa using I
 have Z:(op==12)=false:=by simpa using J
 have R:(op==13)=false:=by simpa using H
 have A:q=false:=by rw [<- E];exact decide_eq_false (by omega)
 subst A;clear E L M I J H;go_enter Tryz.func92,Tryz.ntmps92;go_wp2;go_ret;exact ⟨rfl,rfl⟩
theorem i_x {B:Nat} {a b c:World} (h:Below B a b) (A:Below B b c):Below B a c:=h.trans A
theorem g_k (p p2:Option Addr) (n c n2 V:Nat) (dd A:List Int) (R:isP dd A) (w:World) (h1:Nums .i64 w (.slice p n c) dd) (h2:Nums .i64 w (.slice p2 n2 V) A):
  Calls Tryz.prog 30 #[.agg #[.slice p n c,.slice p2 n2 V]] w fun e E=>∃ v,e = .returned v/\TRes E w.heap.size v dd A/\Bw w E:=by
 have ab:dd.length<=1073741824:=by have:=R.1.1;rw [a_O] at this;omega
 have ac:A.length<=1073741824:=by have h3:=R.1.2.2;have h4:=R.2;omega
 have CI:Hid (∀ W,Bw w W->Calls Tryz.prog 46 #[.slice p n c] W fun e E=>∃ O,e = .returned O/\OwnK .i64 3 E W.heap.size O dd/\Bw W E):=fun W hW=>c_m _ dd (by omega) W (h1.up hW);have CF:Hid (∀ W,Bw w W->Calls Tryz.prog 47 #[.slice p2 n2 V] W fun e E=>∃ O,e = .returned O/\OwnK .i64 48 E W.heap.size O A/\Bw W E):=fun W hW=>g_J _ A (by omega) W (h2.up hW);haveI:Nonempty World:=⟨w⟩
 clear h1 h2 ab ac R;go_enter Tryz.func30,Tryz.ntmps30;go_wp2_with fail
 generalize M:alloc _ _=W0;obtain ⟨I,XA,XR⟩:=i_M M;clear M;obtain ⟨a0,a1,_,_⟩:=XA.out;have k0:=a_b a0;refine rel [⟨2,5,fun v W=>OwnK .i64 3 W W0.heap.size v dd⟩,⟨5,8,fun v W=>OwnK .i64 48 W W0.heap.size v A⟩,⟨6,9,OwnT W0.heap.size dd A⟩] 7 10 (by kernel_rfl) rfl rfl (by kernel_rfl) (by rfl) ?_ ?_
 ·exact upC (fun _ _ _=>OwnK.up) (upC (fun _ _ _=>OwnK.up) (upC (fun _ _ _=>OwnT.up) upN))
 apply Exists.intro;refine ⟨fun x=>?_,?_,?_⟩
 ·simp only [take_succ_cons,take_zero]
  iterate 2
   apply c_w;rfl;rfl
   ·intro F hF hf K hK hFc hFf
    go_big_quiet_op
    exact hK
   (try simp only [a_v])
  refine c_g rfl rfl ?_ ?_
  ·intro F hF hf d hFc hFf;simp [a_j,a_e,go_sem];refine (CI.out (F d) (a_c I (hF.below d))).mono ?_;rintro e' w8 ⟨v8,rfl,H,J⟩;exact ⟨_,rfl,H.low (hF.below d).size,J⟩
  iterate 2
   (try simp only [a_v])
   apply c_w;rfl;rfl
   ·intro F hF hf K hK hFc hFf
    go_big_quiet_op
    exact hK
  (try simp only [a_v])
  refine c_g rfl rfl ?_ ?_
  ·intro F hF hf d hFc hFf;simp [a_j,a_e,go_sem];refine (CF.out (F d) (a_c I (hF.below d))).mono ?_;rintro e' w8 ⟨v8,rfl,H,J⟩;exact ⟨_,rfl,H.low (hF.below d).size,J⟩
  (try simp only [a_v])
  refine c_g rfl rfl ?_ ?_
  ·intro F hF hf d hFc hFf;have h9:OwnK .i64 3 (F d) W0.heap.size (x 2) dd:=hf _ mS (by rfl) d;have H:OwnK .i64 48 (F d) W0.heap.size (x 5) A:=hf _ (mC mS) (by rfl) d;obtain ⟨p9,n9,c9,e9⟩:=h9.form_;obtain ⟨p8,n8,c8,e8⟩:=H.form_;rw [e9] at h9;rw [e8] at H;simp [a_j,a_e,go_sem,e9,e8];exact ⟨⟨_,_,_,_,_,_,rfl,h9,H⟩,Below.refl _ _⟩
  (try simp only [a_v])
  refine b_A ?_;exact rfl
 ·exact fun x=>rfl
 ·intro w1 Z aa hf;simp only [drop_succ_cons,drop_zero];have L:=hf _ (mC (mC mS));obtain ⟨x2,e2⟩:∃ q,Z 2=q:=⟨_,rfl⟩
  obtain ⟨x5,e5⟩:∃ q,Z 5=q:=⟨_,rfl⟩
  obtain ⟨x6,e6⟩:∃ q,Z 6=q:=⟨_,rfl⟩
  simp only [e6] at L;simp only [e2,e5,e6];obtain ⟨pa,na,ca,pb,nb,cb,rfl,hs,ht⟩:=L;clear e2 e5 e6 hf CI CF a0 a1 k0;obtain ⟨HF,r0,r1,r2,r3,z0,z1⟩:=r_2 XR I aa hs ht (by omega);clear hs ht;go_wp2;exact bodyPost_ret (v:=.agg #[.slice pa na ca,.slice pb nb cb]) (by simp [results,Tryz.results30,go_sem,z0,z1]) rfl ⟨_,rfl,HF.out⟩
theorem k_o (B I:Nat) (ns:List Nd) (nd:Nd) (pa pb:Option Addr) (Z ca nb cb:Nat) (ab:ns.length < 512) (w:World) (hT:TapC w B I ns) (hs:OwnK .i64 3 w B (.slice pa Z ca) nd.D) (ht:OwnK .i64 48 w B (.slice pb nb cb) nd.X):
  Calls Tryz.prog 90 #[.pointer (some ⟨I,0,none⟩),.agg #[.int .i64 nd.op,.int .i64 nd.a,.int .i64 nd.b,.int .i64 nd.k,.slice pa Z ca,.slice pb nb cb]] w fun e w'=>e = .returned (.int .i64 (ns.length:Int))/\TapC w' B I (ns++[nd])/\Below B w w'/\Only SC w w'/\Spare I w w'/\∀ H,OwnK .i64 3 w H (.slice pa Z ca) nd.D->SpA H I w w':=by
 obtain ⟨op,a,bb,k,D,X⟩:=nd;have af:Hid _:=hT;obtain ⟨O,M,V,hv,ho,ae,ag⟩:=Tap.head hT;obtain ⟨N,eN⟩:∃ N,ns.length=N:=⟨_,rfl⟩
 rw [eN] at hv ho ag;have am:=(a_P hv).1;have hz:=a_k hv;rw [eN];have hl:Hid (N < 512):=by show _ < _;rw [<- eN];exact ab
 have au:Hid _:=Nat.le_trans af.1 (Nat.le_of_lt hz);have HS:Hid (OwnK .i64 3 w B (.slice pa Z ca) D/\OwnK .i64 48 w B (.slice pb nb cb) X):=⟨hs,ht⟩
 clear hT hv ho ae ag hs ht ab am hz M V O;go_enter Tryz.func90,Tryz.ntmps90;go_wp2_with fail
 refine a_Q (fun J aj=>?_);have az:J.heap[w.heap.size]?=some (.cells #[.int .i64 op,.int .i64 a,.int .i64 bb,.int .i64 k,.slice pa Z ca,.slice pb nb cb] 52 (0,0)):=by rw [aj];exact heap_alloc_new _ _
 have E:Bw w J:=by rw [aj];exact a_a _ _
 have ad:Hid (Below B w J/\B<=J.heap.size/\Only SC w J/\Spare I w J/\Bw w J):=⟨E.mono au,Nat.le_trans au E.size,Only.of E,Spare.of E,E⟩
 have ah:Hid (NdC J B ⟨op,a,bb,k,D,X⟩ [.int .i64 op,.int .i64 a,.int .i64 bb,.int .i64 k,.slice pa Z ca,.slice pb nb cb]):=⟨_,_,rfl,HS.1.up E,HS.2.up E⟩
 have aw:=af.out.up E;obtain ⟨O,M,V,hv,ho,ae,ag⟩:=Tap.head aw;rw [eN] at hv ho;have A:Hid (B<=I/\J.heap[I]?=some (.cells #[.slice O N M] 72 (0,0))/\ns.length=N/\J.ownsRow B 52 6 (.slice O N M) N V/\NdsC J B ns V):=⟨af.1,hv,eN,ho,ae⟩
 have ac:∀ z,Value.ownBlock (.slice O N M)=some z->z < w.heap.size:=fun z an=>by
  have h3:=af.out;obtain ⟨aI,aL,aJ,ak,ax,_,_⟩:=Tap.head h3;rw [eN] at ak ax;have h4:=E.block I (a_k ak);rw [hv,ak] at h4;cases h4;exact (ownsRow.lt ax z an).2
 have al:Hid (J.heap[w.heap.size]?=some (.cells #[.int .i64 op,.int .i64 a,.int .i64 bb,.int .i64 k,.slice pa Z ca,.slice pb nb cb] 52 (0,0))/\some w.heap.size≠Value.ownBlock (.slice O N M)):=⟨az,fun h=>by have:=ac _ h.symm;omega⟩
 have aH:Hid (∀ z,Value.ownBlock (.slice O N M)=some z->z < J.heap.size):=fun z an=>Nat.lt_of_lt_of_le (ac z an) E.size;have aE:Hid _:=ah.out.one;clear hv ho ae ag ac aj aw E az HS;refine a_7 (by kernel_rfl) ?_;refine seg (fun q W=>match q with|false=>Bw J W|true=>J.grownBy W (Value.ownBlock (.slice O N M))) (fun W W'=>W.grownBy W' (Value.ownBlock (.slice O N M))) 7 [⟨6,11,LitS 52 J.heap.size [.int .i64 op,.int .i64 a,.int .i64 bb,.int .i64 k,.slice pa Z ca,.slice pb nb cb]⟩,⟨7,12,OwnL 52 B (N+1) (V++[.int .i64 op,.int .i64 a,.int .i64 bb,.int .i64 k,.slice pa Z ca,.slice pb nb cb]) (Value.ownBlock (.slice O N M)) J.heap.size⟩] 0 10 21 rfl rfl (by kernel_rfl) (by rfl) ?_ ?_ ?_ ?_ ?_ ?_
 ·intro q W W' h hb;cases q
  ·exact a_c h hb
  ·exact d_U h hb
 ·exact ⟨rfl,rfl,rfl,Nat.le_refl _,fun _ _=>rfl⟩
 ·exact .inl ⟨_,mC mS,rfl⟩
 ·exact upC (fun _ _ _=>LitS.up) (upC (fun _ _ _=>OwnL.up) upN)
 ·intro e he aF v W W' h hc ht;simp only [mem_cons,not_mem_nil,or_false] at he;rcases he with rfl|rfl
  ·exact LitS.grown h ht aH.out
  ·exact absurd rfl aF
 apply Exists.intro;refine ⟨fun x=>?_,?_,?_⟩
 ·simp only [drop_succ_cons,drop_zero,take_succ_cons,take_zero]
  iterate 4
   apply d_n;rfl;rfl
   ·intro b F hF hf K hK hFc
    go_big_quiet_op
    exact hK
   (try simp only [a_v])
  apply d_n;rfl;rfl
  ·intro b F hF hf K hK hFc
   have q0:∀ d,(F d).cell? ⟨I,0,none⟩=some (.slice O N M):=fun d=>by
    have hK:J.grownBy (F d) (Value.ownBlock (.slice O N M)):=by
     cases b
     ·exact a_B _ (hFc d)
     ·exact hFc d
    exact hK.cell (a_P A.2.1).1 (Ne.symm (b_U p_o A.2.1 A.2.2.2.1))
   clear hFc
   go_big_quiet_op
   exact hK
  (try simp only [a_v])
  apply d_n;rfl;rfl
  ·intro b F hF hf K hK hFc
   have q0:∀ d,(F d).heap[w.heap.size]?=some (.cells #[.int .i64 op,.int .i64 a,.int .i64 bb,.int .i64 k,.slice pa Z ca,.slice pb nb cb] 52 (0,0)):=fun d=>by
    have hK:J.grownBy (F d) (Value.ownBlock (.slice O N M)):=by
     cases b
     ·exact a_B _ (hFc d)
     ·exact hFc d
    rw [hK.block _ (a_k al.1) al.2];exact al.1
   have q1:=fun d=>(g_i (q0 d)).1.1;have q2:=fun d=>(g_i (q0 d)).1.2.1;have q3:=fun d=>(g_i (q0 d)).1.2.2.1;have q4:=fun d=>(g_i (q0 d)).1.2.2.2.1;have q5:=fun d=>(g_i (q0 d)).1.2.2.2.2.1;have q6:=fun d=>(g_i (q0 d)).1.2.2.2.2.2;clear hFc q0
   go_big_quiet_op
   exact hK
  (try simp only [a_v])
  refine a_U rfl (by decide) rfl ?_ ?_
  ·intro b F hF hf d;have hFc:=hF.cls
   have av:J.heap.size<=(F d).heap.size:=by
    cases b
    ·exact (hFc d).size
    ·exact (hFc d).size
   simp [a_j,a_e,go_sem];exact ⟨⟨(F d).heap.size,rfl,heap_alloc_new (F d) _,av⟩,a_a _ _⟩
  (try simp only [a_v])
  refine c_P rfl rfl rfl ?_ ?_
  ·intro W hW hf;have h7:=hf _ mS (by rfl) W;obtain ⟨g7,e7,aD,_⟩:=h7;simp only [] at e7;obtain ⟨g8,c8,w8,aC,aG,ai,R⟩:=u_N t_U (by decide) 70 W B (.slice O N M) N V (a_z (S:=[]) A.2.2.2.1 (Only.of hW) (by simp)) g7 [.int .i64 op,.int .i64 a,.int .i64 bb,.int .i64 k,.slice pa Z ca,.slice pb nb cb] aD rfl aE.out (by have:=hl.out;omega) (Nat.le_trans A.1 (Nat.le_trans (Nat.le_of_lt (a_k A.2.1)) (Below.size hW)));simp [b_i,a_Z,execOp,resolve,invoke,builtin,Act.eval,e7,aC,Result.andThen];exact ⟨⟨aG,g8,c8,rfl,R.imp id fun e=>by rw [e];exact Below.size hW⟩,b_2 (a_B _ hW) ai,ai⟩
  iterate 2
   (try simp only [a_v])
   apply d_n;rfl;rfl
   ·intro b F hF hf K hK hFc
    go_big_quiet_op
    exact hK
  (try simp only [a_v])
  refine e_b ?_;exact rfl
 ·exact fun x=>rfl
 ·intro w8 aq ao ap;have L:=ao;refine c_z 10 (by kernel_rfl) ?_;simp only [drop_succ_cons,drop_zero];have h8:=ap _ (mC mS);obtain ⟨x6,e6⟩:∃ z,aq 6=z:=⟨_,rfl⟩
  obtain ⟨x7,e7⟩:∃ z,aq 7=z:=⟨_,rfl⟩
  simp only [e7] at h8;simp only [e6,e7];obtain ⟨h8,g8,c8,rfl,R⟩:=h8;obtain ⟨ar,ay⟩:=Tap.push (TT:=72) (NT:=52) p_o (by decide) (by decide) (nd:=⟨op,a,bb,k,D,X⟩) A.1 A.2.1 (by rw [A.2.2.1];exact A.2.2.2.1) A.2.2.2.2 ah.out L (by rw [A.2.2.1];exact h8)
  have aa:w8.heap[I]?=some (.cells #[.slice O N M] 72 (0,0)):=by
   rw [L.block I (a_k A.2.1) (Ne.symm (b_U p_o A.2.1 A.2.2.2.1))];exact A.2.1
  obtain ⟨r0,r1⟩:=a_P aa;have z0:=(a_P (v:=.slice (some ⟨g8,0,none⟩) (N+1) c8) (e:=72) (W:=w8.setCell ⟨I,0,none⟩ (.slice (some ⟨g8,0,none⟩) (N+1) c8)) (by rw [a_l aa];rfl)).1
  have HF:Hid (TapC (w8.setCell ⟨I,0,none⟩ (.slice (some ⟨g8,0,none⟩) (N+1) c8)) B I (ns++[⟨op,a,bb,k,D,X⟩])/\Below B w (w8.setCell ⟨I,0,none⟩ (.slice (some ⟨g8,0,none⟩) (N+1) c8))/\Only SC w (w8.setCell ⟨I,0,none⟩ (.slice (some ⟨g8,0,none⟩) (N+1) c8))/\Spare I w (w8.setCell ⟨I,0,none⟩ (.slice (some ⟨g8,0,none⟩) (N+1) c8))/\∀ H,OwnK .i64 3 w H (.slice pa Z ca) D->SpA H I w (w8.setCell ⟨I,0,none⟩ (.slice (some ⟨g8,0,none⟩) (N+1) c8))):=by
   refine ⟨ar,(Below.grown ad.1 L ad.2.1 (f_g A.2.2.2.1)).setCell (p:=⟨I,0,none⟩) A.1 _,ad.2.2.1.trans ay,ad.2.2.2.1.trans ?_,fun H hH x hx ha=>r_m A.2.1 A.2.2.2.1 (by rw [A.2.2.2.2.1,A.2.2.1]) aa h8 rfl (n_e hH hx) (ha.up ad.2.2.2.2)⟩;intro x v hv hn hx ho;rw [A.2.1] at hv;cases hv;refine ⟨?_,_,(a_l aa).trans rfl,?_⟩
   ·rw [a_1 _ _ _ _ _ hn];exact L.block x hx (Ne.symm ho)
   ·intro e;have e':g8=x:=by simpa [Value.ownBlock] using e
    rcases R with h|h
    ·exact ho (by rw [h,e'])
    ·omega
  clear ar ay ao L h8 ap aa R;have aA:((N+1:Nat):Int) - 1=(N:Int):=by omega
  have aB:wrap64 (N:Int)=(N:Int):=by have:=hl.out;unfold wrap64;omega
  go_wp2;exact bodyPost_ret (v:=.int .i64 (N:Int)) (by simp [results,Tryz.results90,go_sem,aA,aB]) rfl ⟨rfl,HF.out⟩
theorem l_o (B J:Nat) (ns:List Nd) (p V:Option Addr) (n c R M:Nat) (dd H:List Int) (hd:RI dd) (w:World) (O:TapC w B J ns) (h1:Nums .i64 w (.slice p n c) dd) (h2:Nums .i64 w (.slice V R M) H) (A:512<=ns.length):
  Calls Tryz.prog 63 #[.pointer (some ⟨J,0,none⟩),.agg #[.slice p n c,.slice V R M]] w fun e Z=>e = .returned (.tuple #[.int .i64 (f_f ns dd H),.int .i64 (e_T ns dd H)])/\TapC Z B J (e_o ns dd H)/\Below B w Z/\Only SC w Z/\Spar2 J w Z:=by
 have ab:Hid (B<=w.heap.size):=Nat.le_trans O.1 (Nat.le_of_lt (by obtain ⟨_,_,_,hv,_⟩:=Tap.head O;exact a_k hv));have L:Hid _:=O;have HN:Hid (Nums .i64 w (.slice p n c) dd/\Nums .i64 w (.slice V R M) H/\RI dd):=⟨h1,h2,hd⟩
 have hf:=decide_eq_true A;have e1:e_T ns dd H=2:=if_pos A;have e2:f_f ns dd H=0:=if_neg fun h=>by omega
 have e3:e_o ns dd H=ns:=if_neg fun h=>by omega
 rw [e1,e2,e3];clear O e1 e2 e3 h1 h2 hd A;go_enter Tryz.func63,Tryz.ntmps63;go_wp2_with fail
 generalize I:alloc _ _=W0;have E:=p_0 (w:=w) I (by go_grown);have XA:Hid (Cel W0 w.heap.size (.slice p n c) (.slice V R M)):=e_W I (by simp [go_sem]);clear I;refine (c_C B J ns true hf W0 (L.out.up E)).mono ?_;rintro e w1 ⟨rfl,aa⟩;subst aa;clear hf;go_wp2;exact bodyPost_ret (v:=.tuple #[.int .i64 0,.int .i64 2]) (by simp [results,Tryz.results63,go_sem]) rfl ⟨rfl,L.out.up E,E.mono ab,Only.of E,Spar2.of E⟩
theorem n_f (B M:Nat) (ns:List Nd) (p Z:Option Addr) (n c V R:Nat) (dd A:List Int) (hd:RI dd) (w:World) (hT:TapC w B M ns) (h1:Nums .i64 w (.slice p n c) dd) (h2:Nums .i64 w (.slice Z V R) A) (I:ns.length < 512) (hp:¬ isP dd A):
  Calls Tryz.prog 63 #[.pointer (some ⟨M,0,none⟩),.agg #[.slice p n c,.slice Z V R]] w fun e w'=>e = .returned (.tuple #[.int .i64 (f_f ns dd A),.int .i64 (e_T ns dd A)])/\TapC w' B M (e_o ns dd A)/\Below B w w'/\Only SC w w'/\Spar2 M w w':=by
 have ab:Hid (B<=w.heap.size):=Nat.le_trans hT.1 (Nat.le_of_lt (by obtain ⟨_,_,_,hv,_⟩:=Tap.head hT;exact a_k hv));have O:Hid _:=hT;have HN:Hid (Nums .i64 w (.slice p n c) dd/\Nums .i64 w (.slice Z V R) A/\RI dd):=⟨h1,h2,hd⟩
 have hf:decide (512<=ns.length)=false:=decide_eq_false (by omega);have hq:=decide_eq_false hp;have e1:e_T ns dd A=1:=(if_neg (by omega)).trans (if_neg hp);have e2:f_f ns dd A=0:=if_neg fun h=>hp h.2;have e3:e_o ns dd A=ns:=if_neg fun h=>hp h.2;rw [e1,e2,e3];clear hT e1 e2 e3 h1 h2 hd I hp;go_enter Tryz.func63,Tryz.ntmps63;go_wp2_with fail
 generalize J:alloc _ _=W0;have E:=p_0 (w:=w) J (by go_grown);have XA:Hid (Cel W0 w.heap.size (.slice p n c) (.slice Z V R)):=e_W J (by simp [go_sem]);clear J;refine (c_C B M ns false hf W0 (O.out.up E)).mono ?_;rintro e w1 ⟨rfl,aa⟩;subst aa;clear hf;obtain ⟨a0,a1,_,_⟩:=XA.out;have k0:=a_b a0;go_wp2_with fail
 refine (b_h (.slice p n c) (.slice Z V R) dd A HN.2.2 w1 (HN.1.up E) (HN.2.1.up E)).mono ?_;rintro e w2 ⟨rfl,L⟩;rw [hq];have H:=b_5 (a_c E L) L;clear L;clear hq;go_wp2;exact bodyPost_ret (v:=.tuple #[.int .i64 0,.int .i64 1]) (by simp [results,Tryz.results63,go_sem]) rfl ⟨rfl,O.out.up H.1,H.1.mono ab,Only.of H.1,Spar2.of H.1⟩
theorem l_p (B L:Nat) (ns:List Nd) (p p2:Option Addr) (n c Z V:Nat) (dd H:List Int) (hd:RI dd) (w:World) (hT:TapC w B L ns) (h1:Nums .i64 w (.slice p n c) dd) (h2:Nums .i64 w (.slice p2 Z V) H) (A:ns.length < 512) (hp:isP dd H):
  Calls Tryz.prog 63 #[.pointer (some ⟨L,0,none⟩),.agg #[.slice p n c,.slice p2 Z V]] w fun e w'=>e = .returned (.tuple #[.int .i64 (f_f ns dd H),.int .i64 (e_T ns dd H)])/\TapC w' B L (e_o ns dd H)/\Below B w w'/\Only SC w w'/\Spar2 L w w':=by
 have R:Hid (B<=w.heap.size):=Nat.le_trans hT.1 (Nat.le_of_lt (by obtain ⟨_,_,_,hv,_⟩:=Tap.head hT;exact a_k hv));have ae:Hid _:=hT;have HN:Hid (Nums .i64 w (.slice p n c) dd/\Nums .i64 w (.slice p2 Z V) H/\RI dd):=⟨h1,h2,hd⟩
 have hf:decide (512<=ns.length)=false:=decide_eq_false (by omega);have hq:=decide_eq_true hp;have HP:Hid (isP dd H/\ns.length < 512):=⟨hp,A⟩
 have e1:e_T ns dd H=0:=(if_neg (by omega)).trans (if_pos hp);have e2:f_f ns dd H=(ns.length:Int):=if_pos ⟨A,hp⟩;have e3:e_o ns dd H=ns++[⟨1,-1,-1,0,dd,H⟩]:=if_pos ⟨A,hp⟩;rw [e1,e2,e3];clear hT e1 e2 e3 h1 h2 hd A hp;go_enter Tryz.func63,Tryz.ntmps63;go_wp2_with fail
 generalize M:alloc _ _=W0;have J:=p_0 (w:=w) M (by go_grown);have XA:Hid (Cel W0 w.heap.size (.slice p n c) (.slice p2 Z V)):=e_W M (by simp [go_sem]);clear M;refine (c_C B L ns false hf W0 (ae.out.up J)).mono ?_;rintro e w1 ⟨rfl,ag⟩;subst ag;clear hf;obtain ⟨a0,a1,_,_⟩:=XA.out;have k0:=a_b a0;go_wp2_with fail
 refine (b_h (.slice p n c) (.slice p2 Z V) dd H HN.2.2 w1 (HN.1.up J) (HN.2.1.up J)).mono ?_;rintro e w2 ⟨rfl,O⟩;rw [hq];have E:=b_5 (a_c J O) O;clear O;clear hq;replace a0:=a_d a0 E.2;replace a1:=a_d a1 E.2;replace k0:=a_b a0;go_wp2_with fail
 refine (g_k p p2 n c Z V dd H HP.1 w2 (HN.1.up E.1) (HN.2.1.up E.1)).mono ?_;rintro e w3 ⟨v3,rfl,⟨s3,t3,rfl,hs,ht⟩,ad⟩;obtain ⟨pa,na,ca,rfl⟩:=hs.form_;obtain ⟨pb,nb,cb,rfl⟩:=ht.form_;have I:Hid _:=a_c E.1 ad;have HO:Hid (OwnK .i64 3 w3 B (.slice pa na ca) dd/\OwnK .i64 48 w3 B (.slice pb nb cb) H/\OwnK .i64 3 w3 w.heap.size (.slice pa na ca) dd):=⟨hs.low (Nat.le_trans R E.1.size),ht.low (Nat.le_trans R E.1.size),hs.low E.1.size⟩
 clear hs ht ad a0 a1 k0;go_wp2_with fail
 refine (k_o B L ns ⟨1,-1,-1,0,dd,H⟩ pa pb na ca nb cb HP.2 w3 (ae.out.up I) HO.1 HO.2.1).mono ?_;rintro e w4 ⟨rfl,ac,af,aa,ab⟩;have HF:Hid (TapC w4 B L (ns++[⟨1,-1,-1,0,dd,H⟩])/\Below B w w4/\Only SC w w4/\Spar2 L w w4):=⟨ac,i_x (I.mono R) af,(Only.of I).trans aa,Spar2.kept I ab HO.2.2⟩
 clear ac af aa ab HO;go_wp2;exact bodyPost_ret (v:=.tuple #[.int .i64 (ns.length:Int),.int .i64 0]) (by simp [results,Tryz.results63,go_sem]) rfl ⟨rfl,HF.out⟩
theorem p_p (B E:Nat) (ns:List Nd) (Z:NodesG ns) (p I:Option Addr) (n c J H:Nat) (dd A:List Int) (M:RI dd) (hy:RI A) (w:World) (V:TapC w B E ns) (O:Nums .i64 w (.slice p n c) dd) (R:Nums .i64 w (.slice I J H) A):
  Calls Tryz.prog 63 #[.pointer (some ⟨E,0,none⟩),.agg #[.slice p n c,.slice I J H]] w fun e L=>e = .returned (.tuple #[.int .i64 (f_f ns dd A),.int .i64 (e_T ns dd A)])/\TapC L B E (e_o ns dd A)/\Below B w L/\Only SC w L/\Spar2 E w L:=by
 by_cases hf:512<=ns.length
 ·exact l_o B E ns p I n c J H dd A M w V O R hf
 ·by_cases hp:isP dd A
  ·exact l_p B E ns p I n c J H dd A M w V O R (by omega) hp
  ·exact n_f B E ns p I n c J H dd A M w V O R (by omega) hp
end Go.Proofs.YtkfpainpomobfaaGreatDoor.Wd
