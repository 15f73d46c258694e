/- Bent lines and their slopes, as numbers: they rise, they stay within bounds, bent again they stay; between two points of one piece a line rises by its slope. Nothing of the program is named here. · The lines of act: what each makes of a number and how steep it is there; lineOf, Of and Slope hand these back. · act.All: what it hands back. -/
import Derived.Test.YtjlofobnmjompaaGreatDoorJ01
import Derived.Test.YtjlofobnmjompaaGreatDoorJ08
import Derived.Test.YtjlofobnmjompaaGreatDoorJ00
import Derived.Laws.EntriesVeiled
import Derived.Test.YtjlofobnmjompaaGreatDoorJ12
set_option linter.unusedVariables false
set_option linter.unusedSimpArgs false
set_option maxHeartbeats 16000000
set_option maxRecDepth 16000
namespace Go.Proofs.YtjlofobnmjompaaGreatDoor.Fx
open Go.RowKit
/-- A number by 8, by 2: rounded to the even one half way. -/
def by8 (x:Int):Int:=sg (decide (x < 0)) (rq x.natAbs 8)
def by2 (x:Int):Int:=sg (decide (x < 0)) (rq x.natAbs 2)
theorem rq_scale (n d k:Nat) (hk:0 < k) (hd:0 < d):rq (n*k) (d*k)=rq n d:=by
 unfold rq
 rw [Nat.mul_div_mul_right _ _ hk,Nat.mul_mod_mul_right]
 have e1:d*k < 2*(n % d*k)↔d < 2*(n % d):=by
  rw [← Nat.mul_assoc]
  exact Nat.mul_lt_mul_right hk
 have e2:2*(n % d*k)=d*k↔2*(n % d)=d:=by
  rw [← Nat.mul_assoc]
  exact Nat.mul_left_inj (by omega)
 simp only [e1,e2]
theorem rq8_rng (n:Nat):rq n 8≤n:=by
 unfold rq
 split <;> omega
theorem rq2_rng (n:Nat):rq n 2≤n:=by
 unfold rq
 split <;> omega
theorem by8_rng {x:Int} (h:InR x):InR (by8 x):=by
 unfold InR at h ⊢
 have:=rq8_rng x.natAbs
 unfold by8 sg
 split
 ·rename_i hs
  have:=of_decide_eq_true hs
  omega
 ·rename_i hs
  have:¬ x < 0:=fun c=>hs (decide_eq_true c)
  omega
theorem by2_rng {x:Int} (h:InR x):InR (by2 x):=by
 unfold InR at h ⊢
 have:=rq2_rng x.natAbs
 unfold by2 sg
 split
 ·rename_i hs
  have:=of_decide_eq_true hs
  omega
 ·rename_i hs
  have:¬ x < 0:=fun c=>hs (decide_eq_true c)
  omega
theorem div8 {x:Int} (h:InR x):divI x 34359738368=by8 x:=by
 have hr:=by8_rng h
 unfold divI
 rw [if_neg (by omega)]
 have e1:differ x 34359738368=decide (x < 0):=by
  unfold differ
  rw [show decide ((34359738368:Int) < 0)=false from rfl]
  cases decide (x < 0) <;> rfl
 have e2:rq (x.natAbs*4294967296) (34359738368:Int).natAbs=rq x.natAbs 8:=rq_scale x.natAbs 8 4294967296 (by omega) (by omega)
 rw [e1,e2]
 exact hold_in hr.1 hr.2
theorem div2 {x:Int} (h:InR x):divI x 8589934592=by2 x:=by
 have hr:=by2_rng h
 unfold divI
 rw [if_neg (by omega)]
 have e1:differ x 8589934592=decide (x < 0):=by
  unfold differ
  rw [show decide ((8589934592:Int) < 0)=false from rfl]
  cases decide (x < 0) <;> rfl
 have e2:rq (x.natAbs*4294967296) (8589934592:Int).natAbs=rq x.natAbs 2:=rq_scale x.natAbs 2 4294967296 (by omega) (by omega)
 rw [e1,e2]
 exact hold_in hr.1 hr.2
/-- The lines, by kind; their slopes. -/
def bendI (k x:Int):Int:=
 if k=1 then (if x < 0 then 0 else x)
 else if k=2 then (if 0 < x then x else by8 x)
 else if k=3 then (if 4294967296 < x then 4294967296 else if x < -4294967296 then -4294967296 else x)
 else if k=4 then (if x < 0 then hold (-x) else x)
 else (if hold (by2 x+2147483648) < 0 then 0 else if 4294967296 < hold (by2 x+2147483648) then 4294967296 else hold (by2 x+2147483648))
def slopeI (k x:Int):Int:=
 if k=1 then (if 0 < x then 4294967296 else 0)
 else if k=2 then (if 0 < x then 4294967296 else 536870912)
 else if k=3 then (if -4294967296 < x∧x < 4294967296 then 4294967296 else 0)
 else if k=4 then (if 0 < x then 4294967296 else if x < 0 then -4294967296 else 0)
 else (if -4294967296 < x∧x < 4294967296 then 2147483648 else 0)
theorem bend_1 (x:Int):bendI 1 x=if x < 0 then 0 else x:=if_pos rfl
theorem bend_2 (x:Int):bendI 2 x=if 0 < x then x else by8 x:=(if_neg (by decide)).trans (if_pos rfl)
theorem bend_3 (x:Int):bendI 3 x=if 4294967296 < x then 4294967296 else if x < -4294967296 then -4294967296 else x:=(if_neg (by decide)).trans ((if_neg (by decide)).trans (if_pos rfl))
theorem bend_4 (x:Int):bendI 4 x=if x < 0 then hold (-x) else x:=(if_neg (by decide)).trans ((if_neg (by decide)).trans ((if_neg (by decide)).trans (if_pos rfl)))
theorem slope_1 (x:Int):slopeI 1 x=if 0 < x then 4294967296 else 0:=if_pos rfl
theorem slope_2 (x:Int):slopeI 2 x=if 0 < x then 4294967296 else 536870912:=(if_neg (by decide)).trans (if_pos rfl)
theorem slope_3 (x:Int):slopeI 3 x=if -4294967296 < x∧x < 4294967296 then 4294967296 else 0:=(if_neg (by decide)).trans ((if_neg (by decide)).trans (if_pos rfl))
theorem slope_4 (x:Int):slopeI 4 x=if 0 < x then 4294967296 else if x < 0 then -4294967296 else 0:=(if_neg (by decide)).trans ((if_neg (by decide)).trans ((if_neg (by decide)).trans (if_pos rfl)))
theorem bend_5 (x:Int):bendI 5 x=if hold (by2 x+2147483648) < 0 then 0 else if 4294967296 < hold (by2 x+2147483648) then 4294967296 else hold (by2 x+2147483648):=(if_neg (by decide)).trans ((if_neg (by decide)).trans ((if_neg (by decide)).trans (if_neg (by decide))))
theorem slope_5 (x:Int):slopeI 5 x=if -4294967296 < x∧x < 4294967296 then 2147483648 else 0:=(if_neg (by decide)).trans ((if_neg (by decide)).trans ((if_neg (by decide)).trans (if_neg (by decide))))
theorem slope_rng (k x:Int):InR (slopeI k x):=by
 unfold slopeI InR
 repeat' split
 all_goals omega
theorem bend_rng {k x:Int} (h:InR x):InR (bendI k x):=by
 have h8:=by8_rng h
 have hh:=hold_rng (-x)
 unfold InR at *
 unfold bendI
 repeat' split
 all_goals omega
theorem bdrew (W:World) (m:Nat):Below W.heap.size W (W.drewN m):=⟨rfl,rfl,rfl,Nat.le_refl _,fun _ _=>rfl⟩
theorem neg_any (a:Int) (ha:InR a) (w:World):
  Calls Tryz.prog 187 #[.int .i64 a] w fun e w'=>e = .returned (.int .i64 (hold (-a)))∧w'=w:=by
 go_enter Tryz.func187,Tryz.ntmps187
 go_wp2_with (go_at_call 148;refine (sub_any 0 a (by unfold InR;omega) ha _).mono ?_;rintro e w' ⟨rfl,rfl⟩)
 go_ret
 exact ⟨by simp,rfl⟩
theorem max_is {P:Program} {x y z:Int} (h:(if x < y then y else x)=z) (ts:Array TypeId) (t:TypeId) (w:World):(Builtin.max_ ts t #[.int .i64 x,.int .i64 y]).run P w = .ok (.int .i64 z) w:=by
 rw [run_max_int2,← h]
theorem min_is {P:Program} {x y z:Int} (h:(if y < x then y else x)=z) (ts:Array TypeId) (t:TypeId) (w:World):(Builtin.min_ ts t #[.int .i64 x,.int .i64 y]).run P w = .ok (.int .i64 z) w:=by
 rw [run_min_int2,← h]
theorem b1_any (x:Int) (hx:InR x) (w:World):
  Calls Tryz.prog 166 #[.int .i64 x] w fun e w'=>e = .returned (.int .i64 (bendI 1 x))∧∃ n,w'=w.drewN n:=by
 obtain ⟨y,ey⟩:∃ y,(if x < 0 then 0 else x)=y:=⟨_,rfl⟩
 have k1:=max_is (P:=Tryz.prog) ey
 have E:Hid (bendI 1 x=y):=(bend_1 x).trans ey
 clear ey
 go_enter Tryz.func166,Tryz.ntmps166
 go_wp2
 go_ret
 exact ⟨ret_int E.out.symm,0,rfl⟩
theorem b2_any (x:Int) (hx:InR x) (w:World):
  Calls Tryz.prog 168 #[.int .i64 x] w fun e w'=>e = .returned (.int .i64 (bendI 2 x))∧∃ n,w'=w.drewN n:=by
 rw [bend_2]
 by_cases h:0 < x
 ·rw [if_pos h]
  go_enter Tryz.func168,Tryz.ntmps168
  go_wp2
  go_ret
  exact ⟨rfl,0,rfl⟩
 ·rw [if_neg h,← div8 hx]
  have h':x≤0:=by omega
  have c8:∀ W,Calls Tryz.prog 185 #[.int .i64 8] W fun e w'=>e = .returned (.int .i64 34359738368)∧w'=W:=fun W=>of_any 8 (by unfold InR;omega) W
  have H:Hid (InR x):=hx
  clear hx h
  go_enter Tryz.func168,Tryz.ntmps168
  go_wp2_with fail
  refine (c8 _).mono ?_
  rintro e w1 ⟨rfl,rfl⟩
  go_wp2_with fail
  refine (div_any x 34359738368 H.out (by unfold InR;omega) _).mono ?_
  rintro e w2 ⟨rfl,m,rfl⟩
  go_wp2
  go_ret
  exact ⟨rfl,m,rfl⟩
theorem b3_any (x:Int) (hx:InR x) (w:World):
  Calls Tryz.prog 170 #[.int .i64 x] w fun e w'=>e = .returned (.int .i64 (bendI 3 x))∧∃ n,w'=w.drewN n:=by
 obtain ⟨y,ey⟩:∃ y,(if x < -4294967296 then -4294967296 else x)=y:=⟨_,rfl⟩
 obtain ⟨z,ez⟩:∃ z,(if 4294967296 < y then 4294967296 else y)=z:=⟨_,rfl⟩
 have k1:=max_is (P:=Tryz.prog) ey
 have k2:=min_is (P:=Tryz.prog) ez
 have E:Hid (bendI 3 x=z):=by
  show _=_
  rw [bend_3,← ez,← ey]
  repeat' split
  all_goals omega
 clear ey ez
 go_enter Tryz.func170,Tryz.ntmps170
 go_wp2
 go_ret
 exact ⟨ret_int E.out.symm,0,rfl⟩
theorem b4_any (x:Int) (hx:InR x) (w:World):
  Calls Tryz.prog 172 #[.int .i64 x] w fun e w'=>e = .returned (.int .i64 (bendI 4 x))∧∃ n,w'=w.drewN n:=by
 rw [bend_4]
 by_cases h:x < 0
 ·rw [if_pos h]
  go_enter Tryz.func172,Tryz.ntmps172
  go_wp2_with (go_at_call 187;refine (neg_any x hx _).mono ?_;rintro e w' ⟨rfl,rfl⟩)
  go_ret
  exact ⟨rfl,0,rfl⟩
 ·rw [if_neg h]
  have h':0≤x:=by omega
  go_enter Tryz.func172,Tryz.ntmps172
  go_wp2
  go_ret
  exact ⟨rfl,0,rfl⟩
theorem b5_any (x:Int) (hx:InR x) (w:World):
  Calls Tryz.prog 174 #[.int .i64 x] w fun e w'=>e = .returned (.int .i64 (bendI 5 x))∧∃ n,w'=w.drewN n:=by
 obtain ⟨a,ea⟩:∃ a,by2 x=a:=⟨_,rfl⟩
 have ha:InR a:=by rw [← ea];exact by2_rng hx
 obtain ⟨b,eb⟩:∃ b,hold (a+2147483648)=b:=⟨_,rfl⟩
 obtain ⟨y,ey⟩:∃ y,(if b < 0 then 0 else b)=y:=⟨_,rfl⟩
 obtain ⟨z,ez⟩:∃ z,(if 4294967296 < y then 4294967296 else y)=z:=⟨_,rfl⟩
 have k1:=max_is (P:=Tryz.prog) ey
 have k2:=min_is (P:=Tryz.prog) ez
 have c2:∀ W,Calls Tryz.prog 185 #[.int .i64 2] W fun e w'=>e = .returned (.int .i64 8589934592)∧w'=W:=fun W=>of_any 2 (by unfold InR;omega) W
 have cd:=div_any x 8589934592 hx (by unfold InR;omega) w
 rw [div2 hx,ea] at cd
 have ca:∀ W,Calls Tryz.prog 118 #[.int .i64 a,.int .i64 2147483648] W fun e w'=>e = .returned (.int .i64 b)∧w'=W:=fun W=>by rw [← eb];exact add_any a 2147483648 ha (by unfold InR;omega) W
 have E:Hid (bendI 5 x=z):=by
  show _=_
  rw [bend_5,ea,eb,← ez,← ey]
  repeat' split
  all_goals omega
 clear ey ez ea eb hx ha
 go_enter Tryz.func174,Tryz.ntmps174
 go_wp2_with fail
 refine (c2 _).mono ?_
 rintro e w1 ⟨rfl,rfl⟩
 go_wp2_with fail
 refine cd.mono ?_
 rintro e w2 ⟨rfl,m,rfl⟩
 go_wp2_with fail
 refine (ca _).mono ?_
 rintro e w3 ⟨rfl,rfl⟩
 clear c2 cd ca
 go_wp2
 go_ret
 exact ⟨ret_int E.out.symm,m,rfl⟩
theorem inside_any (x:Int) (b:Bool) (hb:decide (-4294967296 < x∧x < 4294967296)=b) (w:World):
  Calls Tryz.prog 186 #[.int .i64 x] w fun e w'=>e = .returned (.bool b)∧w'=w:=by
 by_cases h1:-4294967296 < x
 ·by_cases h2:x < 4294967296
  ·rw [decide_eq_true ⟨h1,h2⟩] at hb
   subst hb
   go_enter Tryz.func186,Tryz.ntmps186
   go_wp2
   go_ret
   exact ⟨rfl,rfl⟩
  ·rw [decide_eq_false fun h=>h2 h.2] at hb
   subst hb
   have h2':4294967296≤x:=by omega
   go_enter Tryz.func186,Tryz.ntmps186
   go_wp2
   go_ret
   exact ⟨rfl,rfl⟩
 ·rw [decide_eq_false fun h=>h1 h.1] at hb
  subst hb
  have h1':x≤-4294967296:=by omega
  go_enter Tryz.func186,Tryz.ntmps186
  go_wp2
  go_ret
  exact ⟨rfl,rfl⟩
theorem s1_any (x:Int) (w:World):
  Calls Tryz.prog 167 #[.int .i64 x] w fun e w'=>e = .returned (.int .i64 (slopeI 1 x))∧w'=w:=by
 rw [slope_1]
 by_cases h:0 < x
 ·rw [if_pos h]
  go_enter Tryz.func167,Tryz.ntmps167
  go_wp2
  go_ret
  exact ⟨rfl,rfl⟩
 ·rw [if_neg h]
  have h':x≤0:=by omega
  go_enter Tryz.func167,Tryz.ntmps167
  go_wp2
  go_ret
  exact ⟨rfl,rfl⟩
theorem s2_any (x:Int) (w:World):
  Calls Tryz.prog 169 #[.int .i64 x] w fun e w'=>e = .returned (.int .i64 (slopeI 2 x))∧w'=w:=by
 rw [slope_2]
 by_cases h:0 < x
 ·rw [if_pos h]
  go_enter Tryz.func169,Tryz.ntmps169
  go_wp2
  go_ret
  exact ⟨rfl,rfl⟩
 ·rw [if_neg h]
  have h':x≤0:=by omega
  go_enter Tryz.func169,Tryz.ntmps169
  go_wp2
  go_ret
  exact ⟨rfl,rfl⟩
theorem s3_any (x:Int) (w:World):
  Calls Tryz.prog 171 #[.int .i64 x] w fun e w'=>e = .returned (.int .i64 (slopeI 3 x))∧w'=w:=by
 rw [slope_3]
 by_cases h:-4294967296 < x∧x < 4294967296
 ·rw [if_pos h]
  have c:=inside_any x true (decide_eq_true h)
  clear h
  go_enter Tryz.func171,Tryz.ntmps171
  go_wp2_with (go_at_call 186;refine (c _).mono ?_;rintro e w' ⟨rfl,rfl⟩)
  go_ret
  exact ⟨rfl,rfl⟩
 ·rw [if_neg h]
  have c:=inside_any x false (decide_eq_false h)
  clear h
  go_enter Tryz.func171,Tryz.ntmps171
  go_wp2_with (go_at_call 186;refine (c _).mono ?_;rintro e w' ⟨rfl,rfl⟩)
  go_ret
  exact ⟨rfl,rfl⟩
theorem s4_any (x:Int) (w:World):
  Calls Tryz.prog 173 #[.int .i64 x] w fun e w'=>e = .returned (.int .i64 (slopeI 4 x))∧w'=w:=by
 rw [slope_4]
 by_cases h:0 < x
 ·rw [if_pos h]
  go_enter Tryz.func173,Tryz.ntmps173
  go_wp2
  go_ret
  exact ⟨rfl,rfl⟩
 ·rw [if_neg h]
  have h':x≤0:=by omega
  by_cases h2:x < 0
  ·rw [if_pos h2]
   go_enter Tryz.func173,Tryz.ntmps173
   go_wp2
   go_ret
   exact ⟨rfl,rfl⟩
  ·rw [if_neg h2]
   have h2':0≤x:=by omega
   go_enter Tryz.func173,Tryz.ntmps173
   go_wp2
   go_ret
   exact ⟨rfl,rfl⟩
theorem s5_any (x:Int) (w:World):
  Calls Tryz.prog 175 #[.int .i64 x] w fun e w'=>e = .returned (.int .i64 (slopeI 5 x))∧w'=w:=by
 rw [slope_5]
 by_cases h:-4294967296 < x∧x < 4294967296
 ·rw [if_pos h]
  have c:=inside_any x true (decide_eq_true h)
  clear h
  go_enter Tryz.func175,Tryz.ntmps175
  go_wp2_with (go_at_call 186;refine (c _).mono ?_;rintro e w' ⟨rfl,rfl⟩)
  go_ret
  exact ⟨rfl,rfl⟩
 ·rw [if_neg h]
  have c:=inside_any x false (decide_eq_false h)
  clear h
  go_enter Tryz.func175,Tryz.ntmps175
  go_wp2_with (go_at_call 186;refine (c _).mono ?_;rintro e w' ⟨rfl,rfl⟩)
  go_ret
  exact ⟨rfl,rfl⟩
theorem line1 (w:World):
  Calls Tryz.prog 136 #[.int .i64 1] w fun e w'=>e = .returned (.tuple #[.agg #[.func (.func 166) #[] #[],.func (.func 167) #[] #[]],.bool true])∧Below w.heap.size w w':=by
 go_enter Tryz.func136,Tryz.ntmps136
 go_wp2
 exact bodyPost_ret (v:=.tuple #[.agg #[.func (.func 166) #[] #[],.func (.func 167) #[] #[]],.bool true]) (by simp [results,Tryz.results136,go_sem]) rfl ⟨rfl,by go_grown⟩
theorem line2 (w:World):
  Calls Tryz.prog 136 #[.int .i64 2] w fun e w'=>e = .returned (.tuple #[.agg #[.func (.func 168) #[] #[],.func (.func 169) #[] #[]],.bool true])∧Below w.heap.size w w':=by
 go_enter Tryz.func136,Tryz.ntmps136
 go_wp2
 exact bodyPost_ret (v:=.tuple #[.agg #[.func (.func 168) #[] #[],.func (.func 169) #[] #[]],.bool true]) (by simp [results,Tryz.results136,go_sem]) rfl ⟨rfl,by go_grown⟩
theorem line3 (w:World):
  Calls Tryz.prog 136 #[.int .i64 3] w fun e w'=>e = .returned (.tuple #[.agg #[.func (.func 170) #[] #[],.func (.func 171) #[] #[]],.bool true])∧Below w.heap.size w w':=by
 go_enter Tryz.func136,Tryz.ntmps136
 go_wp2
 exact bodyPost_ret (v:=.tuple #[.agg #[.func (.func 170) #[] #[],.func (.func 171) #[] #[]],.bool true]) (by simp [results,Tryz.results136,go_sem]) rfl ⟨rfl,by go_grown⟩
theorem line4 (w:World):
  Calls Tryz.prog 136 #[.int .i64 4] w fun e w'=>e = .returned (.tuple #[.agg #[.func (.func 172) #[] #[],.func (.func 173) #[] #[]],.bool true])∧Below w.heap.size w w':=by
 go_enter Tryz.func136,Tryz.ntmps136
 go_wp2
 exact bodyPost_ret (v:=.tuple #[.agg #[.func (.func 172) #[] #[],.func (.func 173) #[] #[]],.bool true]) (by simp [results,Tryz.results136,go_sem]) rfl ⟨rfl,by go_grown⟩
theorem line5 (w:World):
  Calls Tryz.prog 136 #[.int .i64 5] w fun e w'=>e = .returned (.tuple #[.agg #[.func (.func 174) #[] #[],.func (.func 175) #[] #[]],.bool true])∧Below w.heap.size w w':=by
 go_enter Tryz.func136,Tryz.ntmps136
 go_wp2
 exact bodyPost_ret (v:=.tuple #[.agg #[.func (.func 174) #[] #[],.func (.func 175) #[] #[]],.bool true]) (by simp [results,Tryz.results136,go_sem]) rfl ⟨rfl,by go_grown⟩
theorem line_no (k:Int) (hk:k < 1∨5 < k) (w:World):
  Calls Tryz.prog 136 #[.int .i64 k] w fun e w'=>e = .returned (.tuple #[.agg #[.nilFunc,.nilFunc],.bool false])∧Below w.heap.size w w':=by
 have h1:(k==1)=false:=by simp;omega
 have h2:(k==2)=false:=by simp;omega
 have h3:(k==3)=false:=by simp;omega
 have h4:(k==4)=false:=by simp;omega
 have h5:(k==5)=false:=by simp;omega
 clear hk
 go_enter Tryz.func136,Tryz.ntmps136
 go_wp2
 exact bodyPost_ret (v:=.tuple #[.agg #[.nilFunc,.nilFunc],.bool false]) (by simp [results,Tryz.results136,go_sem]) rfl ⟨rfl,by go_grown⟩
theorem line_yes (k:Int) (hk:1≤k∧k≤5):∃ K1 K2:FuncId,(∀ args W,(callFunc K1 args).run Tryz.prog W = .ok (.enter K1 args) W)∧(∀ args W,(callFunc K2 args).run Tryz.prog W = .ok (.enter K2 args) W)
  ∧ (∀ x,InR x→∀ W,Calls Tryz.prog K1 #[.int .i64 x] W fun e w'=>e = .returned (.int .i64 (bendI k x))∧∃ n,w'=W.drewN n)∧(∀ x W,Calls Tryz.prog K2 #[.int .i64 x] W fun e w'=>e = .returned (.int .i64 (slopeI k x))∧w'=W)
  ∧ ∀ w,Calls Tryz.prog 136 #[.int .i64 k] w fun e w'=>e = .returned (.tuple #[.agg #[.func (.func K1) #[] #[],.func (.func K2) #[] #[]],.bool true])∧Below w.heap.size w w':=by
 have:k=1∨k=2∨k=3∨k=4∨k=5:=by omega
 rcases this with rfl|rfl|rfl|rfl|rfl
 ·exact ⟨_,_,fun args W=>by simp [go_sem],fun args W=>by simp [go_sem],b1_any,s1_any,line1⟩
 ·exact ⟨_,_,fun args W=>by simp [go_sem],fun args W=>by simp [go_sem],b2_any,s2_any,line2⟩
 ·exact ⟨_,_,fun args W=>by simp [go_sem],fun args W=>by simp [go_sem],b3_any,s3_any,line3⟩
 ·exact ⟨_,_,fun args W=>by simp [go_sem],fun args W=>by simp [go_sem],b4_any,s4_any,line4⟩
 ·exact ⟨_,_,fun args W=>by simp [go_sem],fun args W=>by simp [go_sem],b5_any,s5_any,line5⟩
end Go.Proofs.YtjlofobnmjompaaGreatDoor.Fx
namespace Go.Proofs.YtjlofobnmjompaaGreatDoor.Wd
open Go.RowKit Fx
def bentE (k:Int) (d x:List Int):Int:=if (1≤k∧k≤5)∧isP d x then 0 else 1
def bentD (k:Int) (d x:List Int):List Int:=if (1≤k∧k≤5)∧isP d x then d else []
def bentV (k:Int) (d x:List Int):List Int:=if (1≤k∧k≤5)∧isP d x then x.map fun y=>Fx.bendI k y else []
theorem map_at (f:Int→Int) (x:List Int) (k:Nat) (h:k < x.length):(x.map f).getD k 0=f (x.getD k 0):=by
 rw [List.getD_eq_getElem?_getD,List.getElem?_map,List.getElem?_eq_getElem h,getD_lt x k 0 h]
 rfl
theorem aall_any (k:Int) (p p2:Option Addr) (n c n2 c2:Nat) (d x:List Int) (hd:RI d) (hx:RI x) (w:World) (h1:Nums .i64 w (.slice p n c) d) (h2:Nums .i64 w (.slice p2 n2 c2) x):
  Calls Tryz.prog 126 #[.int .i64 k,.agg #[.slice p n c,.slice p2 n2 c2]] w fun e w'=>∃ v',e = .returned (.tuple #[v',.int .i64 (bentE k d x)])∧TRes w' w.heap.size v' (bentD k d x) (bentV k d x)∧Below w.heap.size w w':=by
 have cA:=fun W (hW:Below w.heap.size w W)=>tgood_any _ _ d x hd W (h1.up hW) (h2.up hW)
 unfold bentE bentD bentV
 by_cases hk:1≤k∧k≤5
 ·obtain ⟨K1,K2,e1,e2,f1,f2,cl⟩:=line_yes k hk
  by_cases hp:isP d x
  ·rw [decide_eq_true hp] at cA
   rw [if_pos ⟨hk,hp⟩,if_pos ⟨hk,hp⟩,if_pos ⟨hk,hp⟩]
   obtain ⟨V,eV⟩:∃ V,(x.map fun y=>Fx.bendI k y)=V:=⟨_,rfl⟩
   rw [eV]
   have HN:Hid (Nums .i64 w (.slice p n c) d∧Nums .i64 w (.slice p2 n2 c2) x):=⟨h1,h2⟩
   obtain ⟨_,_,_,e4,HX⟩:=h2.lst
   cases e4
   have hlen:x.length≤4096:=by rw [hp.2];exact hp.1.2.2
   rw [HX.out.1] at hlen
   have hlen':(n2:Int)≤4096:=by omega
   have HV:Hid ((x.map fun y=>Fx.bendI k y)=V∧V.length=n2∧isP d x∧RI x∧x.length=n2):=⟨eV,by rw [← eV,List.length_map];exact HX.out.1,hp,hx,HX.out.1⟩
   have HC1:Hid (∀ x,InR x→∀ W,Calls Tryz.prog K1 #[.int .i64 x] W fun e w'=>e = .returned (.int .i64 (bendI k x))∧∃ n,w'=W.drewN n):=f1
   clear eV h1 h2 hd hx hp hk f1 f2 e2
   go_enter Tryz.func126,Tryz.ntmps126
   go_wp2_with fail
   generalize hW0:World.alloc _ _=W0
   have HB0:=hidB (w:=w) hW0 (by go_grown)
   have XA:Hid (Cel W0 w.heap.size (.slice p n c) (.slice p2 n2 c2)):=celW hW0 (by simp [go_sem])
   have XR:Hid (Cel W0 (w.heap.size+1) (.slice none 0 0) (.slice none 0 0)):=celW hW0 (by simp [go_sem])
   clear hW0
   refine (cl W0).mono ?_
   rintro e w1 ⟨rfl,hB1⟩
   have HB1:=hid2 (bstep HB0.out hB1) hB1
   clear hB1 cl
   obtain ⟨a0,a1,_,_⟩:=XA.out.up HB1.out.2
   have z0:=cell_lt a0
   go_wp2_with fail
   generalize hW2:World.alloc _ _=W2
   have B2:Below w1.heap.size w1 W2:=by rw [← hW2];exact up_alloc w1 _
   have XL:Hid (Cel W2 w1.heap.size (.func (.func K1) #[] #[]) (.func (.func K2) #[] #[])):=by show Cel _ _ _ _;unfold Cel;rw [← hW2];simp [go_sem]
   have HB2:=hid2 (bstep HB1.out.1 B2) (bstep HB1.out.2 B2)
   have HL:Hid (W0.heap.size≤w1.heap.size):=HB1.out.2.size
   obtain ⟨bl,hbl⟩:∃ bl,w1.heap.size=bl:=⟨_,rfl⟩
   rw [hbl] at XL HL ⊢
   clear hW2 B2
   refine (cA W2 HB2.out.1).mono ?_
   rintro e w3 ⟨rfl,hB3⟩
   have HB3:Hid (Below w.heap.size w w3∧Below W0.heap.size W0 w3∧Below W2.heap.size W2 w3):=⟨bstep HB2.out.1 hB3,bstep HB2.out.2 hB3,hB3⟩
   clear hB3 cA a0 a1 z0
   obtain ⟨a0,a1,_,_⟩:=XA.out.up HB3.out.2.1
   go_wp2_with (at_make;refine wpList_makeK fixT (by decide) _ rfl (.tmp 26) (.tmp 26) rfl .i64 .i64 n2 n2 n2 rfl rfl rfl rfl (by omega) w.heap.size w HB3.out.1.size HB3.out.1 ?_;intro w4 HO4 B4 B4';clear B4';have XA4:=(XA.out.up (bstep HB3.out.2.1 B4));obtain ⟨a2,a3,_,_⟩:=XA4)
   obtain ⟨g,hg⟩:∃ g,w3.heap.size=g:=⟨_,rfl⟩
   have HB4:Hid (Below w.heap.size w w4∧Below W0.heap.size W0 w4∧Below W2.heap.size W2 w4):=⟨bstep HB3.out.1 B4,bstep HB3.out.2.1 B4,bstep HB3.out.2.2 B4⟩
   rw [hg] at HO4 ⊢
   have hz:=cell_lt XR.out.1
   have Hg:Hid (W0.heap.size≤g∧w.heap.size+1 < W0.heap.size∧bl < g):=⟨by rw [← hg];exact HB3.out.2.1.size,hz,by rw [← hg];exact Nat.lt_of_lt_of_le (cell_lt XL.out.1) HB3.out.2.2.size⟩
   have HO5:Hid (OwnK .i64 23 w4 g (.slice (some ⟨g,0,none⟩) n2 n2) (rowF V 0)):=by
    show OwnK _ _ _ _ _ _
    rw [rowF_zero,HV.out.2.1]
    exact HO4.out
   clear a0 a1 a2 a3 HO4 B4 hg hz
   go_loopg [31] n2 (fun gg i wr=>∃ (k:Nat),k≤n2∧gg=n2 - k∧i = .int .i64 (k:Int)∧Hid (OwnK .i64 23 wr g (.slice (some ⟨g,0,none⟩) n2 n2) (rowF V k))∧Hid (Below w.heap.size w wr∧Stay g w4 wr))
   case atStart=>exact ⟨0,by omega,by omega,by first|rfl|simp,HO5,HB4.out.1,Stay.refl _ _⟩
   case round=>
    obtain ⟨j,hj,hg,rfl,HRk,hBS⟩:=hrel
    obtain ⟨R1,hR1⟩:∃ R1:World,R1=wr:=⟨_,rfl⟩
    subst hR1
    by_cases hjn:j < n2
    ·have hj':(j:Int) < (n2:Int):=by omega
     obtain ⟨q,o,rfl,hc0⟩:=HX.out.2 j hjn
     have hc1:=cell_low hc0 hBS.out.1
     have rx:=HV.out.2.2.2.1.at j (by rw [HV.out.2.2.2.2];exact hjn)
     obtain ⟨X,eX⟩:∃ X,x.getD j 0=X:=⟨_,rfl⟩
     rw [eX] at hc1 rx
     obtain ⟨Z,eZ⟩:∃ Z,Fx.bendI k X=Z:=⟨_,rfl⟩
     have HZ:Hid (V.getD j 0=Z):=by
      show _=_
      rw [← HV.out.1,map_at _ _ _ (by rw [HV.out.2.2.2.2];exact hjn),eX,eZ]
     have cz:∀ W,Calls Tryz.prog K1 #[.int .i64 X] W fun e w'=>e = .returned (.int .i64 Z)∧∃ n,w'=W.drewN n:=fun W=>by rw [← eZ];exact HC1.out X rx W
     have hne:bl≠g:=by have:=Hg.out;omega
     obtain ⟨l0,l1,_,_⟩:=(XL.out.up HB4.out.2.2).stay hBS.out.2 hne
     have hgw:w.heap.size≤g:=by have:=Hg.out;have:=HB0.out.size;omega
     clear eX eZ hc0 hne
     go_wp2_with fail
     refine (cz _).mono ?_
     rintro e w5 ⟨rfl,m,rfl⟩
     have HR5:Hid (OwnK .i64 23 (R1.drewN m) g (.slice (some ⟨g,0,none⟩) n2 n2) (rowF V j)):=HRk.out.up (bdrew _ _)
     have HS5:Hid (Below w.heap.size w (R1.drewN m)∧Stay g w4 (R1.drewN m)):=⟨bstep hBS.out.1 (bdrew _ _),hBS.out.2.up (bdrew _ _)⟩
     obtain ⟨R2,hR2⟩:∃ R2:World,R1.drewN m=R2:=⟨_,rfl⟩
     rw [hR2] at HR5 HS5 ⊢
     obtain ⟨hown,hfz⟩:=HR5.out.cell (by rw [rowF_len];exact HV.out.2.1) j hjn
     have H5:Hid (OwnK .i64 23 (R2.setCell ⟨g,j,none⟩ (.int .i64 Z)) g (.slice (some ⟨g,0,none⟩) n2 n2) (rowF V (j+1))):=by
      have:=HR5.out.store (by rw [rowF_len];exact HV.out.2.1) j Z
      rw [← HZ.out,rowF_set V j (by rw [HV.out.2.1];exact hjn)] at this
      rw [← HZ.out]
      exact this
     have H6:Hid (Below w.heap.size w (R2.setCell ⟨g,j,none⟩ (.int .i64 Z))∧Stay g w4 (R2.setCell ⟨g,j,none⟩ (.int .i64 Z))):=⟨HS5.out.1.setCell (p:=⟨g,j,none⟩) hgw _,HS5.out.2.set _ _⟩
     clear cz l0 l1 hc1 hR2
     go_wp2
     go_roundg (n2 - (j+1))
     case measure=>omega
     case rel=>exact ⟨j+1,by omega,rfl,by first|rfl|simp,H5,H6⟩
    ·obtain rfl:j=n2:=by omega
     have hne0:w.heap.size≠g:=by have:=Hg.out;omega
     have hne1:w.heap.size+1≠g:=by have:=Hg.out;omega
     obtain ⟨a0,a1,_,_⟩:=(XA.out.up HB4.out.2.1).stay hBS.out.2 hne0
     have xr1:=(XR.out.up HB4.out.2.1).stay hBS.out.2 hne1
     have hfin:=HRk.out
     rw [← HV.out.2.1,rowF_full,HV.out.2.1] at hfin
     have HF1:Hid (OwnK .i64 23 R1 g (.slice (some ⟨g,0,none⟩) j j) V):=hfin
     have cc:=cloneI_any _ d (by have:=HV.out.2.2.1.1.1;rw [ntl_len] at this;omega) R1 (HN.out.1.up hBS.out.1)
     have HXR:Hid (Cel R1 (w.heap.size+1) (.slice none 0 0) (.slice none 0 0)):=xr1
     clear hfin xr1 hne0 hne1
     go_wp2_with fail
     refine cc.mono ?_
     rintro e w6 ⟨v6,rfl,h6,hB6⟩
     obtain ⟨p6,n6,c6,rfl,_⟩:=h6.nums.lst
     have HF:Hid (TRes (set2 w6 (w.heap.size+1) (.slice p6 n6 c6) (.slice (some ⟨g,0,none⟩) j j)) w.heap.size (.agg #[.slice p6 n6 c6,.slice (some ⟨g,0,none⟩) j j]) d V∧Below w.heap.size w (set2 w6 (w.heap.size+1) (.slice p6 n6 c6) (.slice (some ⟨g,0,none⟩) j j))):=by
      have hs:g≤R1.heap.size:=Nat.le_of_lt HF1.out.size
      exact ⟨(TRes.set (h6.low (Nat.le_trans Hg.out.1 hs)) ((HF1.out.up hB6).low Hg.out.1) Hg.out.2.1).low HB0.out.size,below_cell (bstep hBS.out.1 hB6) _ (by omega) _ _⟩
     clear cc h6 a0 a1
     have xr:=(HXR.out.up hB6)
     have cf:=xr.set (.slice p6 n6 c6) (.slice (some ⟨g,0,none⟩) j j)
     obtain ⟨r0,r1,r2,r3⟩:=xr
     obtain ⟨y0,y1,_,_⟩:=cf
     go_wp2
     exact bodyPost_ret (v:=.tuple #[.agg #[.slice p6 n6 c6,.slice (some ⟨g,0,none⟩) j j],.int .i64 0]) (by simp [results,Tryz.results126,go_sem,y0,y1]) rfl ⟨_,rfl,HF.out⟩
  ·rw [decide_eq_false hp] at cA
   rw [if_neg fun h=>hp h.2,if_neg fun h=>hp h.2,if_neg fun h=>hp h.2]
   clear h1 h2 hd hx hp hk f1 f2 e1 e2
   go_enter Tryz.func126,Tryz.ntmps126
   go_wp2_with fail
   generalize hW0:World.alloc _ _=W0
   have HB0:=hidB (w:=w) hW0 (by go_grown)
   have XA:Hid (Cel W0 w.heap.size (.slice p n c) (.slice p2 n2 c2)):=celW hW0 (by simp [go_sem])
   have XR:Hid (Cel W0 (w.heap.size+1) (.slice none 0 0) (.slice none 0 0)):=celW hW0 (by simp [go_sem])
   clear hW0
   refine (cl W0).mono ?_
   rintro e w1 ⟨rfl,hB1⟩
   have HB1:=hid2 (bstep HB0.out hB1) hB1
   clear hB1 cl
   obtain ⟨a0,a1,_,_⟩:=XA.out.up HB1.out.2
   have z0:=cell_lt a0
   go_wp2_with fail
   generalize hW2:World.alloc _ _=W2
   have B2:Below w1.heap.size w1 W2:=by rw [← hW2];exact up_alloc w1 _
   have XL:Hid (Cel W2 w1.heap.size (.func (.func K1) #[] #[]) (.func (.func K2) #[] #[])):=by show Cel _ _ _ _;unfold Cel;rw [← hW2];simp [go_sem]
   have HB2:=hid2 (bstep HB1.out.1 B2) (bstep HB1.out.2 B2)
   have HL:Hid (W0.heap.size≤w1.heap.size):=HB1.out.2.size
   obtain ⟨bl,hbl⟩:∃ bl,w1.heap.size=bl:=⟨_,rfl⟩
   rw [hbl] at XL HL ⊢
   clear hW2 B2
   refine (cA W2 HB2.out.1).mono ?_
   rintro e w3 ⟨rfl,hB3⟩
   have HB3:=hid2 (bstep HB2.out.1 hB3) (bstep HB2.out.2 hB3)
   clear hB3 cA a0 a1 z0
   have xr:=(XR.out.up (HB3.out).2)
   have BF:=below_cell ((HB3.out).1) (w.heap.size+1) (by omega) (.slice none 0 0) (.slice none 0 0)
   have cf:=xr.set (.slice none 0 0) (.slice none 0 0)
   obtain ⟨r0,r1,r2,r3⟩:=xr
   obtain ⟨y0,y1,_,_⟩:=cf
   go_wp2
   exact bodyPost_ret (v:=.tuple #[.agg #[.slice none 0 0,.slice none 0 0],.int .i64 1]) (by simp [results,Tryz.results126,go_sem,y0,y1]) rfl ⟨_,rfl,TRes.none _ _,BF⟩
 ·have cl:=line_no k (by omega)
  rw [if_neg fun h=>hk h.1,if_neg fun h=>hk h.1,if_neg fun h=>hk h.1]
  clear h1 h2 hd hx hk cA
  go_enter Tryz.func126,Tryz.ntmps126
  go_wp2_with fail
  generalize hW0:World.alloc _ _=W0
  have HB0:=hidB (w:=w) hW0 (by go_grown)
  have XA:Hid (Cel W0 w.heap.size (.slice p n c) (.slice p2 n2 c2)):=celW hW0 (by simp [go_sem])
  have XR:Hid (Cel W0 (w.heap.size+1) (.slice none 0 0) (.slice none 0 0)):=celW hW0 (by simp [go_sem])
  clear hW0
  refine (cl W0).mono ?_
  rintro e w1 ⟨rfl,hB1⟩
  have HB1:=hid2 (bstep HB0.out hB1) hB1
  clear hB1 cl
  have xr:=(XR.out.up HB1.out.2)
  have hzr:=cell_lt xr.1
  have BF:=bstep (below_cell HB1.out.1 (w.heap.size+1) (by omega) (.slice none 0 0) (.slice none 0 0)) (up_alloc _ (.cells #[.nilFunc,.nilFunc] 200))
  have cf:=(xr.set (.slice none 0 0) (.slice none 0 0)).up (up_alloc _ (.cells #[.nilFunc,.nilFunc] 200))
  obtain ⟨r0,r1,r2,r3⟩:=xr
  obtain ⟨y0,y1,_,_⟩:=cf
  go_wp2
  exact bodyPost_ret (v:=.tuple #[.agg #[.slice none 0 0,.slice none 0 0],.int .i64 1]) (by simp [results,Tryz.results126,go_sem,y0,y1]) rfl ⟨_,rfl,TRes.none _ _,BF⟩
end Go.Proofs.YtjlofobnmjompaaGreatDoor.Wd
