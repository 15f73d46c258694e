/- Bent lines and their slopes, as numbers: they rise, they stay within bounds, bent again they stay; between two points of one piece a line rises by its slope. Nothing of the program is named here. · The lines of act: what each makes of a number and how steep it is there; lineOf, Of and Slope hand these back. · act.All: what it hands back. · What a tape reckons, as the document's table has it: each Op's error, sides, numbers; what comes out is a tensor; numbers too far off are as any that is none. · A region that draws its order, cut into segments: what stands behind a cut waits for all ahead of -/
import Derived.Test.YtpdkkcnmgiihcaaGreatDoorP01
import Derived.Test.YtpdkkcnmgiihcaaGreatDoorP06
import Derived.Test.YtpdkkcnmgiihcaaGreatDoorP00
import Derived.Laws.EntriesVeiled
import Derived.Test.YtpdkkcnmgiihcaaGreatDoorP09
import Derived.Test.YtpdkkcnmgiihcaaGreatDoorP02
import Derived.Test.YtpdkkcnmgiihcaaGreatDoorP03
import Derived.Test.YtpdkkcnmgiihcaaGreatDoorP07
import Derived.Test.YtpdkkcnmgiihcaaGreatDoorP10
import Derived.Test.YtpdkkcnmgiihcaaGreatDoorP11
import Derived.Test.YtpdkkcnmgiihcaaGreatDoorP12
set_option linter.unusedVariables false
set_option linter.unusedSimpArgs false
set_option maxHeartbeats 16000000
set_option maxRecDepth 16000
namespace Go.Proofs.YtpdkkcnmgiihcaaGreatDoor.Fx
open Go.RowKit
/-- A number by 8, by 2: rounded to the even one half way. -/
def by8 (x:Int):Int:=sg (decide (x < 0)) (rq x.natAbs 8)
def by2 (x:Int):Int:=sg (decide (x < 0)) (rq x.natAbs 2)
theorem rq_scale (n d k:Nat) (hk:0 < k) (hd:0 < d):rq (n*k) (d*k)=rq n d:=by
 unfold rq
 rw [Nat.mul_div_mul_right _ _ hk,Nat.mul_mod_mul_right]
 have e1:d*k < 2*(n % d*k)↔d < 2*(n % d):=by
  rw [← Nat.mul_assoc]
  exact Nat.mul_lt_mul_right hk
 have e2:2*(n % d*k)=d*k↔2*(n % d)=d:=by
  rw [← Nat.mul_assoc]
  exact Nat.mul_left_inj (by omega)
 simp only [e1,e2]
theorem rq8_rng (n:Nat):rq n 8≤n:=by
 unfold rq
 split <;> omega
theorem rq2_rng (n:Nat):rq n 2≤n:=by
 unfold rq
 split <;> omega
theorem by8_rng {x:Int} (h:InR x):InR (by8 x):=by
 unfold InR at h ⊢
 have:=rq8_rng x.natAbs
 unfold by8 sg
 split
 ·rename_i hs
  have:=of_decide_eq_true hs
  omega
 ·rename_i hs
  have:¬ x < 0:=fun c=>hs (decide_eq_true c)
  omega
theorem by2_rng {x:Int} (h:InR x):InR (by2 x):=by
 unfold InR at h ⊢
 have:=rq2_rng x.natAbs
 unfold by2 sg
 split
 ·rename_i hs
  have:=of_decide_eq_true hs
  omega
 ·rename_i hs
  have:¬ x < 0:=fun c=>hs (decide_eq_true c)
  omega
theorem div8 {x:Int} (h:InR x):divI x 34359738368=by8 x:=by
 have hr:=by8_rng h
 unfold divI
 rw [if_neg (by omega)]
 have e1:differ x 34359738368=decide (x < 0):=by
  unfold differ
  rw [show decide ((34359738368:Int) < 0)=false from rfl]
  cases decide (x < 0) <;> rfl
 have e2:rq (x.natAbs*4294967296) (34359738368:Int).natAbs=rq x.natAbs 8:=rq_scale x.natAbs 8 4294967296 (by omega) (by omega)
 rw [e1,e2]
 exact hold_in hr.1 hr.2
theorem div2 {x:Int} (h:InR x):divI x 8589934592=by2 x:=by
 have hr:=by2_rng h
 unfold divI
 rw [if_neg (by omega)]
 have e1:differ x 8589934592=decide (x < 0):=by
  unfold differ
  rw [show decide ((8589934592:Int) < 0)=false from rfl]
  cases decide (x < 0) <;> rfl
 have e2:rq (x.natAbs*4294967296) (8589934592:Int).natAbs=rq x.natAbs 2:=rq_scale x.natAbs 2 4294967296 (by omega) (by omega)
 rw [e1,e2]
 exact hold_in hr.1 hr.2
/-- The lines, by kind; their slopes. -/
def bendI (k x:Int):Int:=
 if k=1 then (if x < 0 then 0 else x)
 else if k=2 then (if 0 < x then x else by8 x)
 else if k=3 then (if 4294967296 < x then 4294967296 else if x < -4294967296 then -4294967296 else x)
 else if k=4 then (if x < 0 then hold (-x) else x)
 else (if hold (by2 x+2147483648) < 0 then 0 else if 4294967296 < hold (by2 x+2147483648) then 4294967296 else hold (by2 x+2147483648))
def slopeI (k x:Int):Int:=
 if k=1 then (if 0 < x then 4294967296 else 0)
 else if k=2 then (if 0 < x then 4294967296 else 536870912)
 else if k=3 then (if -4294967296 < x∧x < 4294967296 then 4294967296 else 0)
 else if k=4 then (if 0 < x then 4294967296 else if x < 0 then -4294967296 else 0)
 else (if -4294967296 < x∧x < 4294967296 then 2147483648 else 0)
theorem bend_1 (x:Int):bendI 1 x=if x < 0 then 0 else x:=if_pos rfl
theorem bend_2 (x:Int):bendI 2 x=if 0 < x then x else by8 x:=(if_neg (by decide)).trans (if_pos rfl)
theorem bend_3 (x:Int):bendI 3 x=if 4294967296 < x then 4294967296 else if x < -4294967296 then -4294967296 else x:=(if_neg (by decide)).trans ((if_neg (by decide)).trans (if_pos rfl))
theorem bend_4 (x:Int):bendI 4 x=if x < 0 then hold (-x) else x:=(if_neg (by decide)).trans ((if_neg (by decide)).trans ((if_neg (by decide)).trans (if_pos rfl)))
theorem slope_1 (x:Int):slopeI 1 x=if 0 < x then 4294967296 else 0:=if_pos rfl
theorem slope_2 (x:Int):slopeI 2 x=if 0 < x then 4294967296 else 536870912:=(if_neg (by decide)).trans (if_pos rfl)
theorem slope_3 (x:Int):slopeI 3 x=if -4294967296 < x∧x < 4294967296 then 4294967296 else 0:=(if_neg (by decide)).trans ((if_neg (by decide)).trans (if_pos rfl))
theorem slope_4 (x:Int):slopeI 4 x=if 0 < x then 4294967296 else if x < 0 then -4294967296 else 0:=(if_neg (by decide)).trans ((if_neg (by decide)).trans ((if_neg (by decide)).trans (if_pos rfl)))
theorem bend_5 (x:Int):bendI 5 x=if hold (by2 x+2147483648) < 0 then 0 else if 4294967296 < hold (by2 x+2147483648) then 4294967296 else hold (by2 x+2147483648):=(if_neg (by decide)).trans ((if_neg (by decide)).trans ((if_neg (by decide)).trans (if_neg (by decide))))
theorem slope_5 (x:Int):slopeI 5 x=if -4294967296 < x∧x < 4294967296 then 2147483648 else 0:=(if_neg (by decide)).trans ((if_neg (by decide)).trans ((if_neg (by decide)).trans (if_neg (by decide))))
theorem slope_rng (k x:Int):InR (slopeI k x):=by
 unfold slopeI InR
 repeat' split
 all_goals omega
theorem bend_rng {k x:Int} (h:InR x):InR (bendI k x):=by
 have h8:=by8_rng h
 have hh:=hold_rng (-x)
 unfold InR at *
 unfold bendI
 repeat' split
 all_goals omega
theorem bdrew (W:World) (m:Nat):Below W.heap.size W (W.drewN m):=⟨rfl,rfl,rfl,Nat.le_refl _,fun _ _=>rfl⟩
theorem neg_any (a:Int) (ha:InR a) (w:World):
  Calls Tryz.prog 195 #[.int .i64 a] w fun e w'=>e = .returned (.int .i64 (hold (-a)))∧w'=w:=by
 go_enter Tryz.func195,Tryz.ntmps195
 go_wp2_with (go_at_call 152;refine (sub_any 0 a (by unfold InR;omega) ha _).mono ?_;rintro e w' ⟨rfl,rfl⟩)
 go_ret
 exact ⟨by simp,rfl⟩
theorem max_is {P:Program} {x y z:Int} (h:(if x < y then y else x)=z) (ts:Array TypeId) (t:TypeId) (w:World):(Builtin.max_ ts t #[.int .i64 x,.int .i64 y]).run P w = .ok (.int .i64 z) w:=by
 rw [run_max_int2,← h]
theorem min_is {P:Program} {x y z:Int} (h:(if y < x then y else x)=z) (ts:Array TypeId) (t:TypeId) (w:World):(Builtin.min_ ts t #[.int .i64 x,.int .i64 y]).run P w = .ok (.int .i64 z) w:=by
 rw [run_min_int2,← h]
theorem b1_any (x:Int) (hx:InR x) (w:World):
  Calls Tryz.prog 172 #[.int .i64 x] w fun e w'=>e = .returned (.int .i64 (bendI 1 x))∧∃ n,w'=w.drewN n:=by
 obtain ⟨y,ey⟩:∃ y,(if x < 0 then 0 else x)=y:=⟨_,rfl⟩
 have k1:=max_is (P:=Tryz.prog) ey
 have E:Hid (bendI 1 x=y):=(bend_1 x).trans ey
 clear ey
 go_enter Tryz.func172,Tryz.ntmps172
 go_wp2
 go_ret
 exact ⟨ret_int E.out.symm,0,rfl⟩
theorem b2_any (x:Int) (hx:InR x) (w:World):
  Calls Tryz.prog 174 #[.int .i64 x] w fun e w'=>e = .returned (.int .i64 (bendI 2 x))∧∃ n,w'=w.drewN n:=by
 rw [bend_2]
 by_cases h:0 < x
 ·rw [if_pos h]
  go_enter Tryz.func174,Tryz.ntmps174
  go_wp2
  go_ret
  exact ⟨rfl,0,rfl⟩
 ·rw [if_neg h,← div8 hx]
  have h':x≤0:=by omega
  have c8:∀ W,Calls Tryz.prog 193 #[.int .i64 8] W fun e w'=>e = .returned (.int .i64 34359738368)∧w'=W:=fun W=>of_any 8 (by unfold InR;omega) W
  have H:Hid (InR x):=hx
  clear hx h
  go_enter Tryz.func174,Tryz.ntmps174
  go_wp2_with fail
  refine (c8 _).mono ?_
  rintro e w1 ⟨rfl,rfl⟩
  go_wp2_with fail
  refine (div_any x 34359738368 H.out (by unfold InR;omega) _).mono ?_
  rintro e w2 ⟨rfl,m,rfl⟩
  go_wp2
  go_ret
  exact ⟨rfl,m,rfl⟩
theorem b3_any (x:Int) (hx:InR x) (w:World):
  Calls Tryz.prog 176 #[.int .i64 x] w fun e w'=>e = .returned (.int .i64 (bendI 3 x))∧∃ n,w'=w.drewN n:=by
 obtain ⟨y,ey⟩:∃ y,(if x < -4294967296 then -4294967296 else x)=y:=⟨_,rfl⟩
 obtain ⟨z,ez⟩:∃ z,(if 4294967296 < y then 4294967296 else y)=z:=⟨_,rfl⟩
 have k1:=max_is (P:=Tryz.prog) ey
 have k2:=min_is (P:=Tryz.prog) ez
 have E:Hid (bendI 3 x=z):=by
  show _=_
  rw [bend_3,← ez,← ey]
  repeat' split
  all_goals omega
 clear ey ez
 go_enter Tryz.func176,Tryz.ntmps176
 go_wp2
 go_ret
 exact ⟨ret_int E.out.symm,0,rfl⟩
theorem b4_any (x:Int) (hx:InR x) (w:World):
  Calls Tryz.prog 178 #[.int .i64 x] w fun e w'=>e = .returned (.int .i64 (bendI 4 x))∧∃ n,w'=w.drewN n:=by
 rw [bend_4]
 by_cases h:x < 0
 ·rw [if_pos h]
  go_enter Tryz.func178,Tryz.ntmps178
  go_wp2_with (go_at_call 195;refine (neg_any x hx _).mono ?_;rintro e w' ⟨rfl,rfl⟩)
  go_ret
  exact ⟨rfl,0,rfl⟩
 ·rw [if_neg h]
  have h':0≤x:=by omega
  go_enter Tryz.func178,Tryz.ntmps178
  go_wp2
  go_ret
  exact ⟨rfl,0,rfl⟩
theorem b5_any (x:Int) (hx:InR x) (w:World):
  Calls Tryz.prog 180 #[.int .i64 x] w fun e w'=>e = .returned (.int .i64 (bendI 5 x))∧∃ n,w'=w.drewN n:=by
 obtain ⟨a,ea⟩:∃ a,by2 x=a:=⟨_,rfl⟩
 have ha:InR a:=by rw [← ea];exact by2_rng hx
 obtain ⟨b,eb⟩:∃ b,hold (a+2147483648)=b:=⟨_,rfl⟩
 obtain ⟨y,ey⟩:∃ y,(if b < 0 then 0 else b)=y:=⟨_,rfl⟩
 obtain ⟨z,ez⟩:∃ z,(if 4294967296 < y then 4294967296 else y)=z:=⟨_,rfl⟩
 have k1:=max_is (P:=Tryz.prog) ey
 have k2:=min_is (P:=Tryz.prog) ez
 have c2:∀ W,Calls Tryz.prog 193 #[.int .i64 2] W fun e w'=>e = .returned (.int .i64 8589934592)∧w'=W:=fun W=>of_any 2 (by unfold InR;omega) W
 have cd:=div_any x 8589934592 hx (by unfold InR;omega) w
 rw [div2 hx,ea] at cd
 have ca:∀ W,Calls Tryz.prog 116 #[.int .i64 a,.int .i64 2147483648] W fun e w'=>e = .returned (.int .i64 b)∧w'=W:=fun W=>by rw [← eb];exact add_any a 2147483648 ha (by unfold InR;omega) W
 have E:Hid (bendI 5 x=z):=by
  show _=_
  rw [bend_5,ea,eb,← ez,← ey]
  repeat' split
  all_goals omega
 clear ey ez ea eb hx ha
 go_enter Tryz.func180,Tryz.ntmps180
 go_wp2_with fail
 refine (c2 _).mono ?_
 rintro e w1 ⟨rfl,rfl⟩
 go_wp2_with fail
 refine cd.mono ?_
 rintro e w2 ⟨rfl,m,rfl⟩
 go_wp2_with fail
 refine (ca _).mono ?_
 rintro e w3 ⟨rfl,rfl⟩
 clear c2 cd ca
 go_wp2
 go_ret
 exact ⟨ret_int E.out.symm,m,rfl⟩
theorem inside_any (x:Int) (b:Bool) (hb:decide (-4294967296 < x∧x < 4294967296)=b) (w:World):
  Calls Tryz.prog 194 #[.int .i64 x] w fun e w'=>e = .returned (.bool b)∧w'=w:=by
 by_cases h1:-4294967296 < x
 ·by_cases h2:x < 4294967296
  ·rw [decide_eq_true ⟨h1,h2⟩] at hb
   subst hb
   go_enter Tryz.func194,Tryz.ntmps194
   go_wp2
   go_ret
   exact ⟨rfl,rfl⟩
  ·rw [decide_eq_false fun h=>h2 h.2] at hb
   subst hb
   have h2':4294967296≤x:=by omega
   go_enter Tryz.func194,Tryz.ntmps194
   go_wp2
   go_ret
   exact ⟨rfl,rfl⟩
 ·rw [decide_eq_false fun h=>h1 h.1] at hb
  subst hb
  have h1':x≤-4294967296:=by omega
  go_enter Tryz.func194,Tryz.ntmps194
  go_wp2
  go_ret
  exact ⟨rfl,rfl⟩
theorem s1_any (x:Int) (w:World):
  Calls Tryz.prog 173 #[.int .i64 x] w fun e w'=>e = .returned (.int .i64 (slopeI 1 x))∧w'=w:=by
 rw [slope_1]
 by_cases h:0 < x
 ·rw [if_pos h]
  go_enter Tryz.func173,Tryz.ntmps173
  go_wp2
  go_ret
  exact ⟨rfl,rfl⟩
 ·rw [if_neg h]
  have h':x≤0:=by omega
  go_enter Tryz.func173,Tryz.ntmps173
  go_wp2
  go_ret
  exact ⟨rfl,rfl⟩
theorem s2_any (x:Int) (w:World):
  Calls Tryz.prog 175 #[.int .i64 x] w fun e w'=>e = .returned (.int .i64 (slopeI 2 x))∧w'=w:=by
 rw [slope_2]
 by_cases h:0 < x
 ·rw [if_pos h]
  go_enter Tryz.func175,Tryz.ntmps175
  go_wp2
  go_ret
  exact ⟨rfl,rfl⟩
 ·rw [if_neg h]
  have h':x≤0:=by omega
  go_enter Tryz.func175,Tryz.ntmps175
  go_wp2
  go_ret
  exact ⟨rfl,rfl⟩
theorem s3_any (x:Int) (w:World):
  Calls Tryz.prog 177 #[.int .i64 x] w fun e w'=>e = .returned (.int .i64 (slopeI 3 x))∧w'=w:=by
 rw [slope_3]
 by_cases h:-4294967296 < x∧x < 4294967296
 ·rw [if_pos h]
  have c:=inside_any x true (decide_eq_true h)
  clear h
  go_enter Tryz.func177,Tryz.ntmps177
  go_wp2_with (go_at_call 194;refine (c _).mono ?_;rintro e w' ⟨rfl,rfl⟩)
  go_ret
  exact ⟨rfl,rfl⟩
 ·rw [if_neg h]
  have c:=inside_any x false (decide_eq_false h)
  clear h
  go_enter Tryz.func177,Tryz.ntmps177
  go_wp2_with (go_at_call 194;refine (c _).mono ?_;rintro e w' ⟨rfl,rfl⟩)
  go_ret
  exact ⟨rfl,rfl⟩
theorem s4_any (x:Int) (w:World):
  Calls Tryz.prog 179 #[.int .i64 x] w fun e w'=>e = .returned (.int .i64 (slopeI 4 x))∧w'=w:=by
 rw [slope_4]
 by_cases h:0 < x
 ·rw [if_pos h]
  go_enter Tryz.func179,Tryz.ntmps179
  go_wp2
  go_ret
  exact ⟨rfl,rfl⟩
 ·rw [if_neg h]
  have h':x≤0:=by omega
  by_cases h2:x < 0
  ·rw [if_pos h2]
   go_enter Tryz.func179,Tryz.ntmps179
   go_wp2
   go_ret
   exact ⟨rfl,rfl⟩
  ·rw [if_neg h2]
   have h2':0≤x:=by omega
   go_enter Tryz.func179,Tryz.ntmps179
   go_wp2
   go_ret
   exact ⟨rfl,rfl⟩
theorem s5_any (x:Int) (w:World):
  Calls Tryz.prog 181 #[.int .i64 x] w fun e w'=>e = .returned (.int .i64 (slopeI 5 x))∧w'=w:=by
 rw [slope_5]
 by_cases h:-4294967296 < x∧x < 4294967296
 ·rw [if_pos h]
  have c:=inside_any x true (decide_eq_true h)
  clear h
  go_enter Tryz.func181,Tryz.ntmps181
  go_wp2_with (go_at_call 194;refine (c _).mono ?_;rintro e w' ⟨rfl,rfl⟩)
  go_ret
  exact ⟨rfl,rfl⟩
 ·rw [if_neg h]
  have c:=inside_any x false (decide_eq_false h)
  clear h
  go_enter Tryz.func181,Tryz.ntmps181
  go_wp2_with (go_at_call 194;refine (c _).mono ?_;rintro e w' ⟨rfl,rfl⟩)
  go_ret
  exact ⟨rfl,rfl⟩
theorem line1 (w:World):
  Calls Tryz.prog 139 #[.int .i64 1] w fun e w'=>e = .returned (.tuple #[.agg #[.func (.func 172) #[] #[],.func (.func 173) #[] #[]],.bool true])∧Below w.heap.size w w':=by
 go_enter Tryz.func139,Tryz.ntmps139
 go_wp2
 exact bodyPost_ret (v:=.tuple #[.agg #[.func (.func 172) #[] #[],.func (.func 173) #[] #[]],.bool true]) (by simp [results,Tryz.results139,go_sem]) rfl ⟨rfl,by go_grown⟩
theorem line2 (w:World):
  Calls Tryz.prog 139 #[.int .i64 2] w fun e w'=>e = .returned (.tuple #[.agg #[.func (.func 174) #[] #[],.func (.func 175) #[] #[]],.bool true])∧Below w.heap.size w w':=by
 go_enter Tryz.func139,Tryz.ntmps139
 go_wp2
 exact bodyPost_ret (v:=.tuple #[.agg #[.func (.func 174) #[] #[],.func (.func 175) #[] #[]],.bool true]) (by simp [results,Tryz.results139,go_sem]) rfl ⟨rfl,by go_grown⟩
theorem line3 (w:World):
  Calls Tryz.prog 139 #[.int .i64 3] w fun e w'=>e = .returned (.tuple #[.agg #[.func (.func 176) #[] #[],.func (.func 177) #[] #[]],.bool true])∧Below w.heap.size w w':=by
 go_enter Tryz.func139,Tryz.ntmps139
 go_wp2
 exact bodyPost_ret (v:=.tuple #[.agg #[.func (.func 176) #[] #[],.func (.func 177) #[] #[]],.bool true]) (by simp [results,Tryz.results139,go_sem]) rfl ⟨rfl,by go_grown⟩
theorem line4 (w:World):
  Calls Tryz.prog 139 #[.int .i64 4] w fun e w'=>e = .returned (.tuple #[.agg #[.func (.func 178) #[] #[],.func (.func 179) #[] #[]],.bool true])∧Below w.heap.size w w':=by
 go_enter Tryz.func139,Tryz.ntmps139
 go_wp2
 exact bodyPost_ret (v:=.tuple #[.agg #[.func (.func 178) #[] #[],.func (.func 179) #[] #[]],.bool true]) (by simp [results,Tryz.results139,go_sem]) rfl ⟨rfl,by go_grown⟩
theorem line5 (w:World):
  Calls Tryz.prog 139 #[.int .i64 5] w fun e w'=>e = .returned (.tuple #[.agg #[.func (.func 180) #[] #[],.func (.func 181) #[] #[]],.bool true])∧Below w.heap.size w w':=by
 go_enter Tryz.func139,Tryz.ntmps139
 go_wp2
 exact bodyPost_ret (v:=.tuple #[.agg #[.func (.func 180) #[] #[],.func (.func 181) #[] #[]],.bool true]) (by simp [results,Tryz.results139,go_sem]) rfl ⟨rfl,by go_grown⟩
theorem line_no (k:Int) (hk:k < 1∨5 < k) (w:World):
  Calls Tryz.prog 139 #[.int .i64 k] w fun e w'=>e = .returned (.tuple #[.agg #[.nilFunc,.nilFunc],.bool false])∧Below w.heap.size w w':=by
 have h1:(k==1)=false:=by simp;omega
 have h2:(k==2)=false:=by simp;omega
 have h3:(k==3)=false:=by simp;omega
 have h4:(k==4)=false:=by simp;omega
 have h5:(k==5)=false:=by simp;omega
 clear hk
 go_enter Tryz.func139,Tryz.ntmps139
 go_wp2
 exact bodyPost_ret (v:=.tuple #[.agg #[.nilFunc,.nilFunc],.bool false]) (by simp [results,Tryz.results139,go_sem]) rfl ⟨rfl,by go_grown⟩
theorem line_yes (k:Int) (hk:1≤k∧k≤5):∃ K1 K2:FuncId,(∀ args W,(callFunc K1 args).run Tryz.prog W = .ok (.enter K1 args) W)∧(∀ args W,(callFunc K2 args).run Tryz.prog W = .ok (.enter K2 args) W)
  ∧ (∀ x,InR x→∀ W,Calls Tryz.prog K1 #[.int .i64 x] W fun e w'=>e = .returned (.int .i64 (bendI k x))∧∃ n,w'=W.drewN n)∧(∀ x W,Calls Tryz.prog K2 #[.int .i64 x] W fun e w'=>e = .returned (.int .i64 (slopeI k x))∧w'=W)
  ∧ ∀ w,Calls Tryz.prog 139 #[.int .i64 k] w fun e w'=>e = .returned (.tuple #[.agg #[.func (.func K1) #[] #[],.func (.func K2) #[] #[]],.bool true])∧Below w.heap.size w w':=by
 have:k=1∨k=2∨k=3∨k=4∨k=5:=by omega
 rcases this with rfl|rfl|rfl|rfl|rfl
 ·exact ⟨_,_,fun args W=>by simp [go_sem],fun args W=>by simp [go_sem],b1_any,s1_any,line1⟩
 ·exact ⟨_,_,fun args W=>by simp [go_sem],fun args W=>by simp [go_sem],b2_any,s2_any,line2⟩
 ·exact ⟨_,_,fun args W=>by simp [go_sem],fun args W=>by simp [go_sem],b3_any,s3_any,line3⟩
 ·exact ⟨_,_,fun args W=>by simp [go_sem],fun args W=>by simp [go_sem],b4_any,s4_any,line4⟩
 ·exact ⟨_,_,fun args W=>by simp [go_sem],fun args W=>by simp [go_sem],b5_any,s5_any,line5⟩
end Go.Proofs.YtpdkkcnmgiihcaaGreatDoor.Fx
namespace Go.Proofs.YtpdkkcnmgiihcaaGreatDoor.Wd
open Go.RowKit Fx
def bentE (k:Int) (d x:List Int):Int:=if (1≤k∧k≤5)∧isP d x then 0 else 1
def bentD (k:Int) (d x:List Int):List Int:=if (1≤k∧k≤5)∧isP d x then d else []
def bentV (k:Int) (d x:List Int):List Int:=if (1≤k∧k≤5)∧isP d x then x.map fun y=>Fx.bendI k y else []
theorem map_at (f:Int→Int) (x:List Int) (k:Nat) (h:k < x.length):(x.map f).getD k 0=f (x.getD k 0):=by
 rw [List.getD_eq_getElem?_getD,List.getElem?_map,List.getElem?_eq_getElem h,getD_lt x k 0 h]
 rfl
theorem aall_any (k:Int) (p p2:Option Addr) (n c n2 c2:Nat) (d x:List Int) (hd:RI d) (hx:RI x) (w:World) (h1:Nums .i64 w (.slice p n c) d) (h2:Nums .i64 w (.slice p2 n2 c2) x):
  Calls Tryz.prog 126 #[.int .i64 k,.agg #[.slice p n c,.slice p2 n2 c2]] w fun e w'=>∃ v',e = .returned (.tuple #[v',.int .i64 (bentE k d x)])∧TRes w' w.heap.size v' (bentD k d x) (bentV k d x)∧Below w.heap.size w w':=by
 have cA:=fun W (hW:Below w.heap.size w W)=>tgood_any _ _ d x hd W (h1.up hW) (h2.up hW)
 unfold bentE bentD bentV
 by_cases hk:1≤k∧k≤5
 ·obtain ⟨K1,K2,e1,e2,f1,f2,cl⟩:=line_yes k hk
  by_cases hp:isP d x
  ·rw [decide_eq_true hp] at cA
   rw [if_pos ⟨hk,hp⟩,if_pos ⟨hk,hp⟩,if_pos ⟨hk,hp⟩]
   obtain ⟨V,eV⟩:∃ V,(x.map fun y=>Fx.bendI k y)=V:=⟨_,rfl⟩
   rw [eV]
   have HN:Hid (Nums .i64 w (.slice p n c) d∧Nums .i64 w (.slice p2 n2 c2) x):=⟨h1,h2⟩
   obtain ⟨_,_,_,e4,HX⟩:=h2.lst
   cases e4
   have hlen:x.length≤4096:=by rw [hp.2];exact hp.1.2.2
   rw [HX.out.1] at hlen
   have hlen':(n2:Int)≤4096:=by omega
   have HV:Hid ((x.map fun y=>Fx.bendI k y)=V∧V.length=n2∧isP d x∧RI x∧x.length=n2):=⟨eV,by rw [← eV,List.length_map];exact HX.out.1,hp,hx,HX.out.1⟩
   have HC1:Hid (∀ x,InR x→∀ W,Calls Tryz.prog K1 #[.int .i64 x] W fun e w'=>e = .returned (.int .i64 (bendI k x))∧∃ n,w'=W.drewN n):=f1
   clear eV h1 h2 hd hx hp hk f1 f2 e2
   go_enter Tryz.func126,Tryz.ntmps126
   go_wp2_with fail
   generalize hW0:World.alloc _ _=W0
   have HB0:=hidB (w:=w) hW0 (by go_grown)
   have XA:Hid (Cel W0 w.heap.size (.slice p n c) (.slice p2 n2 c2)):=celW hW0 (by simp [go_sem])
   have XR:Hid (Cel W0 (w.heap.size+1) (.slice none 0 0) (.slice none 0 0)):=celW hW0 (by simp [go_sem])
   clear hW0
   refine (cl W0).mono ?_
   rintro e w1 ⟨rfl,hB1⟩
   have HB1:=hid2 (bstep HB0.out hB1) hB1
   clear hB1 cl
   obtain ⟨a0,a1,_,_⟩:=XA.out.up HB1.out.2
   have z0:=cell_lt a0
   go_wp2_with fail
   generalize hW2:World.alloc _ _=W2
   have B2:Below w1.heap.size w1 W2:=by rw [← hW2];exact up_alloc w1 _
   have XL:Hid (Cel W2 w1.heap.size (.func (.func K1) #[] #[]) (.func (.func K2) #[] #[])):=by show Cel _ _ _ _;unfold Cel;rw [← hW2];simp [go_sem]
   have HB2:=hid2 (bstep HB1.out.1 B2) (bstep HB1.out.2 B2)
   have HL:Hid (W0.heap.size≤w1.heap.size):=HB1.out.2.size
   obtain ⟨bl,hbl⟩:∃ bl,w1.heap.size=bl:=⟨_,rfl⟩
   rw [hbl] at XL HL ⊢
   clear hW2 B2
   refine (cA W2 HB2.out.1).mono ?_
   rintro e w3 ⟨rfl,hB3⟩
   have HB3:Hid (Below w.heap.size w w3∧Below W0.heap.size W0 w3∧Below W2.heap.size W2 w3):=⟨bstep HB2.out.1 hB3,bstep HB2.out.2 hB3,hB3⟩
   clear hB3 cA a0 a1 z0
   obtain ⟨a0,a1,_,_⟩:=XA.out.up HB3.out.2.1
   go_wp2_with (at_make;refine wpList_makeK fixT (by decide) _ rfl (.tmp 26) (.tmp 26) rfl .i64 .i64 n2 n2 n2 rfl rfl rfl rfl (by omega) w.heap.size w HB3.out.1.size HB3.out.1 ?_;intro w4 HO4 B4 B4';clear B4';have XA4:=(XA.out.up (bstep HB3.out.2.1 B4));obtain ⟨a2,a3,_,_⟩:=XA4)
   obtain ⟨g,hg⟩:∃ g,w3.heap.size=g:=⟨_,rfl⟩
   have HB4:Hid (Below w.heap.size w w4∧Below W0.heap.size W0 w4∧Below W2.heap.size W2 w4):=⟨bstep HB3.out.1 B4,bstep HB3.out.2.1 B4,bstep HB3.out.2.2 B4⟩
   rw [hg] at HO4 ⊢
   have hz:=cell_lt XR.out.1
   have Hg:Hid (W0.heap.size≤g∧w.heap.size+1 < W0.heap.size∧bl < g):=⟨by rw [← hg];exact HB3.out.2.1.size,hz,by rw [← hg];exact Nat.lt_of_lt_of_le (cell_lt XL.out.1) HB3.out.2.2.size⟩
   have HO5:Hid (OwnK .i64 33 w4 g (.slice (some ⟨g,0,none⟩) n2 n2) (rowF V 0)):=by
    show OwnK _ _ _ _ _ _
    rw [rowF_zero,HV.out.2.1]
    exact HO4.out
   clear a0 a1 a2 a3 HO4 B4 hg hz
   go_loopg [31] n2 (fun gg i wr=>∃ (k:Nat),k≤n2∧gg=n2 - k∧i = .int .i64 (k:Int)∧Hid (OwnK .i64 33 wr g (.slice (some ⟨g,0,none⟩) n2 n2) (rowF V k))∧Hid (Below w.heap.size w wr∧Stay g w4 wr))
   case atStart=>exact ⟨0,by omega,by omega,by first|rfl|simp,HO5,HB4.out.1,Stay.refl _ _⟩
   case round=>
    obtain ⟨j,hj,hg,rfl,HRk,hBS⟩:=hrel
    obtain ⟨R1,hR1⟩:∃ R1:World,R1=wr:=⟨_,rfl⟩
    subst hR1
    by_cases hjn:j < n2
    ·have hj':(j:Int) < (n2:Int):=by omega
     obtain ⟨q,o,rfl,hc0⟩:=HX.out.2 j hjn
     have hc1:=cell_low hc0 hBS.out.1
     have rx:=HV.out.2.2.2.1.at j (by rw [HV.out.2.2.2.2];exact hjn)
     obtain ⟨X,eX⟩:∃ X,x.getD j 0=X:=⟨_,rfl⟩
     rw [eX] at hc1 rx
     obtain ⟨Z,eZ⟩:∃ Z,Fx.bendI k X=Z:=⟨_,rfl⟩
     have HZ:Hid (V.getD j 0=Z):=by
      show _=_
      rw [← HV.out.1,map_at _ _ _ (by rw [HV.out.2.2.2.2];exact hjn),eX,eZ]
     have cz:∀ W,Calls Tryz.prog K1 #[.int .i64 X] W fun e w'=>e = .returned (.int .i64 Z)∧∃ n,w'=W.drewN n:=fun W=>by rw [← eZ];exact HC1.out X rx W
     have hne:bl≠g:=by have:=Hg.out;omega
     obtain ⟨l0,l1,_,_⟩:=(XL.out.up HB4.out.2.2).stay hBS.out.2 hne
     have hgw:w.heap.size≤g:=by have:=Hg.out;have:=HB0.out.size;omega
     clear eX eZ hc0 hne
     go_wp2_with fail
     refine (cz _).mono ?_
     rintro e w5 ⟨rfl,m,rfl⟩
     have HR5:Hid (OwnK .i64 33 (R1.drewN m) g (.slice (some ⟨g,0,none⟩) n2 n2) (rowF V j)):=HRk.out.up (bdrew _ _)
     have HS5:Hid (Below w.heap.size w (R1.drewN m)∧Stay g w4 (R1.drewN m)):=⟨bstep hBS.out.1 (bdrew _ _),hBS.out.2.up (bdrew _ _)⟩
     obtain ⟨R2,hR2⟩:∃ R2:World,R1.drewN m=R2:=⟨_,rfl⟩
     rw [hR2] at HR5 HS5 ⊢
     obtain ⟨hown,hfz⟩:=HR5.out.cell (by rw [rowF_len];exact HV.out.2.1) j hjn
     have H5:Hid (OwnK .i64 33 (R2.setCell ⟨g,j,none⟩ (.int .i64 Z)) g (.slice (some ⟨g,0,none⟩) n2 n2) (rowF V (j+1))):=by
      have:=HR5.out.store (by rw [rowF_len];exact HV.out.2.1) j Z
      rw [← HZ.out,rowF_set V j (by rw [HV.out.2.1];exact hjn)] at this
      rw [← HZ.out]
      exact this
     have H6:Hid (Below w.heap.size w (R2.setCell ⟨g,j,none⟩ (.int .i64 Z))∧Stay g w4 (R2.setCell ⟨g,j,none⟩ (.int .i64 Z))):=⟨HS5.out.1.setCell (p:=⟨g,j,none⟩) hgw _,HS5.out.2.set _ _⟩
     clear cz l0 l1 hc1 hR2
     go_wp2
     go_roundg (n2 - (j+1))
     case measure=>omega
     case rel=>exact ⟨j+1,by omega,rfl,by first|rfl|simp,H5,H6⟩
    ·obtain rfl:j=n2:=by omega
     have hne0:w.heap.size≠g:=by have:=Hg.out;omega
     have hne1:w.heap.size+1≠g:=by have:=Hg.out;omega
     obtain ⟨a0,a1,_,_⟩:=(XA.out.up HB4.out.2.1).stay hBS.out.2 hne0
     have xr1:=(XR.out.up HB4.out.2.1).stay hBS.out.2 hne1
     have hfin:=HRk.out
     rw [← HV.out.2.1,rowF_full,HV.out.2.1] at hfin
     have HF1:Hid (OwnK .i64 33 R1 g (.slice (some ⟨g,0,none⟩) j j) V):=hfin
     have cc:=cloneI_any _ d (by have:=HV.out.2.2.1.1.1;rw [ntl_len] at this;omega) R1 (HN.out.1.up hBS.out.1)
     have HXR:Hid (Cel R1 (w.heap.size+1) (.slice none 0 0) (.slice none 0 0)):=xr1
     clear hfin xr1 hne0 hne1
     go_wp2_with fail
     refine cc.mono ?_
     rintro e w6 ⟨v6,rfl,h6,hB6⟩
     obtain ⟨p6,n6,c6,rfl,_⟩:=h6.nums.lst
     have HF:Hid (TRes (set2 w6 (w.heap.size+1) (.slice p6 n6 c6) (.slice (some ⟨g,0,none⟩) j j)) w.heap.size (.agg #[.slice p6 n6 c6,.slice (some ⟨g,0,none⟩) j j]) d V∧Below w.heap.size w (set2 w6 (w.heap.size+1) (.slice p6 n6 c6) (.slice (some ⟨g,0,none⟩) j j))):=by
      have hs:g≤R1.heap.size:=Nat.le_of_lt HF1.out.size
      exact ⟨(TRes.set (h6.low (Nat.le_trans Hg.out.1 hs)) ((HF1.out.up hB6).low Hg.out.1) Hg.out.2.1).low HB0.out.size,below_cell (bstep hBS.out.1 hB6) _ (by omega) _ _⟩
     clear cc h6 a0 a1
     have xr:=(HXR.out.up hB6)
     have cf:=xr.set (.slice p6 n6 c6) (.slice (some ⟨g,0,none⟩) j j)
     obtain ⟨r0,r1,r2,r3⟩:=xr
     obtain ⟨y0,y1,_,_⟩:=cf
     go_wp2
     exact bodyPost_ret (v:=.tuple #[.agg #[.slice p6 n6 c6,.slice (some ⟨g,0,none⟩) j j],.int .i64 0]) (by simp [results,Tryz.results126,go_sem,y0,y1]) rfl ⟨_,rfl,HF.out⟩
  ·rw [decide_eq_false hp] at cA
   rw [if_neg fun h=>hp h.2,if_neg fun h=>hp h.2,if_neg fun h=>hp h.2]
   clear h1 h2 hd hx hp hk f1 f2 e1 e2
   go_enter Tryz.func126,Tryz.ntmps126
   go_wp2_with fail
   generalize hW0:World.alloc _ _=W0
   have HB0:=hidB (w:=w) hW0 (by go_grown)
   have XA:Hid (Cel W0 w.heap.size (.slice p n c) (.slice p2 n2 c2)):=celW hW0 (by simp [go_sem])
   have XR:Hid (Cel W0 (w.heap.size+1) (.slice none 0 0) (.slice none 0 0)):=celW hW0 (by simp [go_sem])
   clear hW0
   refine (cl W0).mono ?_
   rintro e w1 ⟨rfl,hB1⟩
   have HB1:=hid2 (bstep HB0.out hB1) hB1
   clear hB1 cl
   obtain ⟨a0,a1,_,_⟩:=XA.out.up HB1.out.2
   have z0:=cell_lt a0
   go_wp2_with fail
   generalize hW2:World.alloc _ _=W2
   have B2:Below w1.heap.size w1 W2:=by rw [← hW2];exact up_alloc w1 _
   have XL:Hid (Cel W2 w1.heap.size (.func (.func K1) #[] #[]) (.func (.func K2) #[] #[])):=by show Cel _ _ _ _;unfold Cel;rw [← hW2];simp [go_sem]
   have HB2:=hid2 (bstep HB1.out.1 B2) (bstep HB1.out.2 B2)
   have HL:Hid (W0.heap.size≤w1.heap.size):=HB1.out.2.size
   obtain ⟨bl,hbl⟩:∃ bl,w1.heap.size=bl:=⟨_,rfl⟩
   rw [hbl] at XL HL ⊢
   clear hW2 B2
   refine (cA W2 HB2.out.1).mono ?_
   rintro e w3 ⟨rfl,hB3⟩
   have HB3:=hid2 (bstep HB2.out.1 hB3) (bstep HB2.out.2 hB3)
   clear hB3 cA a0 a1 z0
   have xr:=(XR.out.up (HB3.out).2)
   have BF:=below_cell ((HB3.out).1) (w.heap.size+1) (by omega) (.slice none 0 0) (.slice none 0 0)
   have cf:=xr.set (.slice none 0 0) (.slice none 0 0)
   obtain ⟨r0,r1,r2,r3⟩:=xr
   obtain ⟨y0,y1,_,_⟩:=cf
   go_wp2
   exact bodyPost_ret (v:=.tuple #[.agg #[.slice none 0 0,.slice none 0 0],.int .i64 1]) (by simp [results,Tryz.results126,go_sem,y0,y1]) rfl ⟨_,rfl,TRes.none _ _,BF⟩
 ·have cl:=line_no k (by omega)
  rw [if_neg fun h=>hk h.1,if_neg fun h=>hk h.1,if_neg fun h=>hk h.1]
  clear h1 h2 hd hx hk cA
  go_enter Tryz.func126,Tryz.ntmps126
  go_wp2_with fail
  generalize hW0:World.alloc _ _=W0
  have HB0:=hidB (w:=w) hW0 (by go_grown)
  have XA:Hid (Cel W0 w.heap.size (.slice p n c) (.slice p2 n2 c2)):=celW hW0 (by simp [go_sem])
  have XR:Hid (Cel W0 (w.heap.size+1) (.slice none 0 0) (.slice none 0 0)):=celW hW0 (by simp [go_sem])
  clear hW0
  refine (cl W0).mono ?_
  rintro e w1 ⟨rfl,hB1⟩
  have HB1:=hid2 (bstep HB0.out hB1) hB1
  clear hB1 cl
  have xr:=(XR.out.up HB1.out.2)
  have hzr:=cell_lt xr.1
  have BF:=bstep (below_cell HB1.out.1 (w.heap.size+1) (by omega) (.slice none 0 0) (.slice none 0 0)) (up_alloc _ (.cells #[.nilFunc,.nilFunc] 158))
  have cf:=(xr.set (.slice none 0 0) (.slice none 0 0)).up (up_alloc _ (.cells #[.nilFunc,.nilFunc] 158))
  obtain ⟨r0,r1,r2,r3⟩:=xr
  obtain ⟨y0,y1,_,_⟩:=cf
  go_wp2
  exact bodyPost_ret (v:=.tuple #[.agg #[.slice none 0 0,.slice none 0 0],.int .i64 1]) (by simp [results,Tryz.results126,go_sem,y0,y1]) rfl ⟨_,rfl,TRes.none _ _,BF⟩
abbrev twoP (op:Int):Prop:=op=2∨op=3∨op=4∨op=6∨op=12
abbrev byP (op:Int):Prop:=op=5∨op=8∨op=11∨op=12∨op=13
/-- The table. -/
def rkE (op:Int) (D X D' X':List Int) (k:Int):Int:=
 if op=2∨op=3∨op=4 then eachE D X D' X' else if op=5 then scaleE D X else if op=6 then mE D X D' X' else if op=7 then flE D X else if op=8 then smE D X k
 else if op=9∨op=10 then matE D X else if op=11 then bentE k D X else if op=12 then rwE D X D' X' k else if op=13 then plE D X k else shpE D X [(X.length:Int)]
def rkD (op:Int) (D X D' X':List Int) (k:Int):List Int:=
 if op=2∨op=3∨op=4 then eachD D X D' X' else if op=5 then scaleD D X else if op=6 then mD D X D' X' else if op=7 then flD D X else if op=8 then smD D X k
 else if op=9∨op=10 then [] else if op=11 then bentD k D X else if op=12 then rwD D X D' X' k else if op=13 then plD D X k else shpD D X [(X.length:Int)]
def rkV (op:Int) (D X D' X':List Int) (k:Int):List Int:=
 if op=2 then eachV (fun a b=>Fx.hold (a+b)) D X D' X' else if op=3 then eachV (fun a b=>Fx.hold (a - b)) D X D' X' else if op=4 then eachV Fx.mulI D X D' X' else if op=5 then scaleV D X k else if op=6 then mV D X D' X' else if op=7 then flV D X else if op=8 then smV D X k
 else if op=9 then (if isP D X then [allV D X] else []) else if op=10 then (if isP D X then [meanV D X] else []) else if op=11 then bentV k D X else if op=12 then rwV D X D' X' k else if op=13 then plV D X k else shpV D X [(X.length:Int)]
/-- A tensor: its numbers are Go's. -/
def TnsG (D X:List Int):Prop:=isP D X∧RI D∧RI X
theorem RI_good {D:List Int} (h:goodN (ntl D)):RI D:=by
 have:=RI_itl h.le
 rwa [itl_ntl h.2.1] at this
theorem tnsg {D X:List Int} (h:isP D X) (hx:RI X):TnsG D X:=⟨h,RI_good h.1,hx⟩
theorem isP_itl {J:List Nat} {X:List Int} (h:goodN J) (hx:X.length=prodN J):isP (itl J) X:=by
 unfold isP
 rw [ntl_itl]
 exact ⟨h,hx⟩
theorem RI_map {α:Type} {l:List α} {f:α→Int} (h:∀ a,a∈l→InR (f a)):RI (l.map f):=fun y hy=>by
 obtain ⟨a,ha,rfl⟩:=List.mem_map.1 hy
 exact h a ha
theorem InR_get {x:List Int} (h:RI x) (i:Nat):InR (x.getD i 0):=by
 rcases Nat.lt_or_ge i x.length with hi|hi
 ·exact h.at i hi
 ·rw [List.getD_eq_getElem?_getD,List.getElem?_eq_none hi]
  show InR 0
  unfold InR
  omega
theorem each_g {op:Int→Int→Int} (ho:∀ a b,InR (op a b)) {d x d' y:List Int} (h:eachE d x d' y=0):TnsG (eachD d x d' y) (eachV op d x d' y):=by
 by_cases hp:isP d x∧isP d' y
 ·by_cases hj:joinE d d'=0
  ·obtain ⟨a,b,J,hJ⟩:=joint hp hj
   obtain ⟨_,e2,e3⟩:=hJ.E (op:=op)
   rw [e2,e3]
   exact tnsg (isP_itl hJ.gJ (by simp)) (RI_map fun i _=>ho _ _)
  ·rw [(each_bad (op:=op) hp hj).1] at h
   exact absurd h hj
 ·rw [(each_none (op:=op) hp).1] at h
  cases h
theorem scale_g {d x:List Int} {k:Int} (h:scaleE d x=0):TnsG (scaleD d x) (scaleV d x k):=by
 unfold scaleE at h
 unfold scaleD scaleV
 by_cases hp:isP d x
 ·rw [if_pos hp,if_pos hp]
  exact tnsg ⟨hp.1,by rw [List.length_map];exact hp.2⟩ (RI_map fun i _=>mulI_rng _ _)
 ·rw [if_neg hp] at h
  cases h
theorem bent_g {k:Int} {d x:List Int} (hx:RI x) (h:bentE k d x=0):TnsG (bentD k d x) (bentV k d x):=by
 unfold bentE at h
 unfold bentD bentV
 by_cases hp:(1≤k∧k≤5)∧isP d x
 ·rw [if_pos hp,if_pos hp]
  exact tnsg ⟨hp.2.1,by rw [List.length_map];exact hp.2.2⟩ (RI_map fun i hi=>bend_rng (hx i hi))
 ·rw [if_neg hp] at h
  cases h
theorem shp_g {d x d':List Int} (hx:RI x) (h:shpE d x d'=0):TnsG (shpD d x d') (shpV d x d'):=by
 unfold shpE at h
 unfold shpD shpV
 by_cases hp:isP d x∧goodN (ntl d')
 ·rw [if_pos hp] at h
  by_cases hl:prodN (ntl d')=x.length
  ·rw [if_pos ⟨hp,hl⟩,if_pos ⟨hp,hl⟩]
   exact tnsg ⟨hp.2,hl.symm⟩ hx
  ·rw [if_neg hl] at h
   cases h
 ·rw [if_neg hp] at h
  cases h
theorem is_nil (v:Int):isP [] [v]:=by
 unfold isP
 refine ⟨⟨by simp [ntl],fun y hy=>by simp [ntl] at hy,by simp [ntl,prodN]⟩,by simp [ntl,prodN]⟩
theorem all_g {d x:List Int} (v:Int) (hv:InR v):TnsG [] [v]:=tnsg (is_nil v) fun y hy=>by
 simp at hy
 subst hy
 exact hv
theorem allV_rng (d x:List Int):InR (allV d x):=by
 unfold allV
 split
 ·exact hold_rng _
 ·unfold InR;omega
theorem meanV_rng (d x:List Int):InR (meanV d x):=by
 unfold meanV meanI
 split
 ·exact hold_rng _
 ·unfold InR;omega
theorem fl_g {d x:List Int} (hx:RI x) (h:flE d x=0):TnsG (flD d x) (flV d x):=by
 unfold flE at h
 unfold flD flV
 by_cases hp:isP d x
 ·rw [if_pos hp] at h
  by_cases h2:d.length=2
  ·rw [if_pos ⟨hp,h2⟩,if_pos ⟨hp,h2⟩]
   obtain ⟨D0,D1,rfl,hl,h0,h1,hm⟩:=two_sides hp h2
   show TnsG [(D1:Int),(D0:Int)] (flipV D0 D1 x)
   refine tnsg (is_two (by unfold flipV;simp [Nat.mul_comm]) h1 h0 (by rw [Nat.mul_comm];exact hm)) ?_
   unfold flipV
   exact RI_map fun i _=>InR_get hx _
  ·rw [if_neg h2] at h
   cases h
 ·rw [if_neg hp] at h
  cases h
theorem m_g {d x d' y:List Int} (h:mE d x d' y=0):TnsG (mD d x d' y) (mV d x d' y):=by
 unfold mE at h
 unfold mD mV
 by_cases hp:isP d x∧isP d' y
 ·rw [if_pos hp] at h
  by_cases hm:mP d x d' y
  ·rw [if_pos hm] at h
   by_cases hg:mG d d'
   ·rw [if_pos ⟨hm,hg⟩,if_pos ⟨hm,hg⟩]
    obtain ⟨A,C,rfl,_⟩:=two_sides hm.1.1 hm.2.2.1
    obtain ⟨C',E,rfl,_⟩:=two_sides hm.1.2 hm.2.1
    show TnsG [(A:Int),(E:Int)] (mulV A C E x y)
    have hg':=good_two.1 hg
    refine tnsg (is_two (by unfold mulV;simp) hg'.1 hg'.2.1 hg'.2.2) ?_
    unfold mulV
    exact RI_map fun i _=>by unfold mulN rnd;exact hold_rng _
   ·rw [if_neg hg] at h
    cases h
  ·rw [if_neg hm] at h
   cases h
 ·rw [if_neg hp] at h
  cases h
theorem sm_g {d x:List Int} {side:Int} (h:smE d x side=0):TnsG (smD d x side) (smV d x side):=by
 unfold smE at h
 unfold smD smV
 by_cases hp:smP d x side
 ·rw [if_pos hp,if_pos hp]
  have hg:=hp.1.1
  have hs:side.toNat < (ntl d).length:=by
   have:=hp.2
   rw [ntl_len]
   omega
  have hless:goodN (lessN (ntl d) side.toNat):=good_less hg _ hs
  refine tnsg (isP_itl hless (by unfold sumV;simp)) ?_
  unfold sumV
  exact RI_map fun i _=>by unfold sumN;exact hold_rng _
 ·rw [if_neg hp] at h
  cases h
theorem rw_g {d x d' y:List Int} {st:Int} (h:rwE d x d' y st=0):TnsG (rwD d x d' y st) (rwV d x d' y st):=by
 unfold rwE at h
 unfold rwD rwV
 by_cases hp:rwA d x d' y st
 ·rw [if_pos hp] at h
  by_cases hs:rwS d d'
  ·rw [if_pos hs] at h
   rw [if_pos ⟨hp,hs⟩,if_pos ⟨hp,hs⟩]
   unfold gatE at h
   by_cases hg:goodN (ntl (rwO d d' st))
   ·unfold newD
    rw [if_pos hg,if_pos hg]
    obtain ⟨O,C,W,rfl,_⟩:=three_sides hp.2.1 hs.2.1
    refine tnsg ⟨hg,?_⟩ ?_
    ·rw [convV_len]
     exact (prod_two O _).symm
    ·unfold convV
     exact RI_map fun i _=>by unfold convN rnd;exact hold_rng _
   ·rw [if_neg hg] at h
    cases h
  ·rw [if_neg hs] at h
   cases h
 ·rw [if_neg hp] at h
  cases h
theorem pl_g {d x:List Int} {wd:Int} (hx:RI x) (h:plE d x wd=0):TnsG (plD d x wd) (plV d x wd):=by
 unfold plE at h
 unfold plD plV
 by_cases hp:isP d x
 ·rw [if_pos hp] at h
  by_cases h2:d.length=2
  ·rw [if_pos h2] at h
   by_cases hw:plW d wd
   ·rw [if_pos ⟨hp,h2,hw⟩,if_pos ⟨hp,h2,hw⟩]
    obtain ⟨D0,D1,rfl,hl,h0,h1,hm⟩:=two_sides hp h2
    have hw':1≤wd∧wd≤(D1:Int):=hw
    obtain ⟨W,rfl⟩:∃ W:Nat,wd=W:=⟨wd.toNat,by omega⟩
    show TnsG [(D0:Int),((D1 / W:Nat):Int)] (poolV D0 D1 (D1 / W) W x)
    have hq:1≤D1 / W:=Nat.div_pos (by omega) (by omega)
    have hle:D0*(D1 / W)≤4096:=Nat.le_trans (Nat.mul_le_mul_left D0 (Nat.div_le_self D1 W)) hm
    refine tnsg (is_two (poolV_len _ _ _ _ _) h0 hq hle) ?_
    unfold poolV
    exact RI_map fun i _=>InR_get hx _
   ·rw [if_neg hw] at h
    cases h
  ·rw [if_neg h2] at h
   cases h
 ·rw [if_neg hp] at h
  cases h
theorem rk_g {op:Int} (h1:2≤op) (h2:op≤14) {D X D' X':List Int} {k:Int} (hx:RI X) (h:rkE op D X D' X' k=0):TnsG (rkD op D X D' X' k) (rkV op D X D' X' k):=by
 have hall:op=2∨op=3∨op=4∨op=5∨op=6∨op=7∨op=8∨op=9∨op=10∨op=11∨op=12∨op=13∨op=14:=by omega
 rcases hall with rfl|rfl|rfl|rfl|rfl|rfl|rfl|rfl|rfl|rfl|rfl|rfl|rfl
 ·exact each_g (fun a b=>hold_rng _) h
 ·exact each_g (fun a b=>hold_rng _) h
 ·exact each_g (fun a b=>mulI_rng a b) h
 ·exact scale_g h
 ·exact m_g h
 ·exact fl_g hx h
 ·exact sm_g h
 ·have hp:isP D X:=by
   by_cases hp:isP D X
   ·exact hp
   ·have h':matE D X=0:=h
    unfold matE at h'
    rw [if_neg hp] at h'
    cases h'
  show TnsG [] (if isP D X then [allV D X] else [])
  rw [if_pos hp]
  exact all_g (d:=D) (x:=X) _ (allV_rng D X)
 ·have hp:isP D X:=by
   by_cases hp:isP D X
   ·exact hp
   ·have h':matE D X=0:=h
    unfold matE at h'
    rw [if_neg hp] at h'
    cases h'
  show TnsG [] (if isP D X then [meanV D X] else [])
  rw [if_pos hp]
  exact all_g (d:=D) (x:=X) _ (meanV_rng D X)
 ·exact bent_g hx h
 ·exact rw_g h
 ·exact pl_g hx h
 ·exact shp_g hx h
/-- A number of parts as an int: what is too far off is none that may be. -/
def whI (k:Int):Int:=if k < -1000000∨1000000 < k then -1000000 else k
theorem bent_wh {D X:List Int} {k:Int}:bentE (whI k) D X=bentE k D X∧bentD (whI k) D X=bentD k D X∧bentV (whI k) D X=bentV k D X:=by
 unfold whI
 split
 ·rename_i hk
  have n1:¬ ((1≤(-1000000:Int)∧(-1000000:Int)≤5)∧isP D X):=fun h=>by have:=h.1;omega
  have n2:¬ ((1≤k∧k≤5)∧isP D X):=fun h=>by have:=h.1;omega
  unfold bentE bentD bentV
  rw [if_neg n1,if_neg n2,if_neg n1,if_neg n2,if_neg n1,if_neg n2]
  exact ⟨rfl,rfl,rfl⟩
 ·exact ⟨rfl,rfl,rfl⟩
end Go.Proofs.YtpdkkcnmgiihcaaGreatDoor.Wd
namespace Go.Proofs.YtpdkkcnmgiihcaaGreatDoor.Wd
open Go.RowKit
section
variable {P : Program} {ops : Array Oper} {Q : Exit → Act → World → Prop}
/-- The first m of n have come up. -/
def upTo (n m:Nat):Array Bool:=Array.replicate m true++Array.replicate (n - m) false
theorem upTo_size {n m:Nat} (h:m≤n):(upTo n m).size=n:=by simp [upTo];omega
theorem upTo_lt {n m j:Nat} (h:j < m) (b:Bool):(upTo n m).getD j b=true:=by
 simp [upTo,Array.getD_eq_getD_getElem?,Array.getElem?_append,h]
theorem upTo_ge {n m j:Nat} (h:m≤j) (hj:j < n) (b:Bool):(upTo n m).getD j b=false:=by
 simp [upTo,Array.getD_eq_getD_getElem?,Array.getElem?_append,Nat.not_lt.2 h,Array.getElem?_replicate]
 rw [if_pos (by omega)]
 rfl
theorem upTo_out {n m j:Nat} (h:m≤n) (hj:n≤j) (b:Bool):(upTo n m).getD j b=b:=by
 simp [upTo,Array.getD_eq_getD_getElem?,Array.getElem?_append,Nat.not_lt.2 (Nat.le_trans h hj),Array.getElem?_replicate]
 rw [if_neg (by omega)]
 rfl
theorem upTo_count {n m:Nat} (h:m≤n):(upTo n m).toList.count false=n - m:=by
 simp [upTo,List.count_replicate]
theorem upTo_eq {n m:Nat} {l:Array Bool} (hs:l.size=n) (hm:m≤n) (h1:∀ j,j < m→l.getD j false=true) (h2:∀ j,m≤j→j < n→l.getD j true=false):l=upTo n m:=by
 refine Array.ext (by rw [hs,upTo_size hm]) fun j hj hj'=>?_
 have hjn:j < n:=by omega
 rcases Nat.lt_or_ge j m with c|c
 ·have e1:=h1 j c
  have e2:=upTo_lt (n:=n) c false
  simp only [Array.getD_eq_getD_getElem?,Array.getElem?_eq_getElem hj,Array.getElem?_eq_getElem hj',Option.getD_some] at e1 e2
  rw [e1,e2]
 ·have e1:=h2 j c hjn
  have e2:=upTo_ge c hjn true
  simp only [Array.getD_eq_getD_getElem?,Array.getElem?_eq_getElem hj,Array.getElem?_eq_getElem hj',Option.getD_some] at e1 e2
  rw [e1,e2]
/-- The region from operation number m on, in any order that it may take. -/
def wpFrom (P:Program) (ops:Array Oper) (Q:Exit→Act→World→Prop) (m:Nat) (a:Act) (w:World):Prop:=wpAny P .any ops Q (ops.size - m) (upTo ops.size m) a w
theorem from_region {id:Nat} {a:Act} {w:World} (hm:P.follows .mixedOrders=true) (h:wpFrom P ops Q 0 a { w with drawn:=w.drawn+1 }):(Code.region id ops true).wp P Q a w:=by
 refine wp_region_any hm ?_
 unfold wpFrom at h
 have:upTo ops.size 0=Array.replicate ops.size false:=by simp [upTo]
 rw [this,Nat.sub_zero] at h
 exact h
/-- The rest is in the order of the text. -/
def tailB (ops:Array Oper) (m:Nat):Bool:=
 decide (m≤ops.size) && ((List.range ops.size).all fun i=>match ops[i]? with
  | none=>false
  | some o=>(o.after.all fun e=>!Region.binds .any e || decide (e.on < i)) && (List.range i).all fun j=>decide (j < m) || waits o j)
theorem from_list {a:Act} {w:World} (m:Nat) (hB:tailB ops m=true) (h:wpList P ops Q (ops.toList.drop m) a w):wpFrom P ops Q m a w:=by
 simp only [tailB,Bool.and_eq_true,decide_eq_true_eq] at hB
 obtain ⟨hm,hback⟩:=hB
 have hb:∀ i o,ops[i]?=some o→∀ e∈o.after,Region.binds .any e=true→e.on < i:=by
  intro i o ho e he hbi
  have:=List.all_eq_true.1 hback i (List.mem_range.2 (Array.getElem?_eq_some_iff.1 ho).1)
  simp only [ho,Bool.and_eq_true] at this
  have h1:=Array.all_eq_true_iff_forall_mem.1 this.1 e he
  simpa [hbi] using h1
 have hT:∀ i o,ops[i]?=some o→∀ j,m≤j→j < i→waits o j=true:=by
  intro i o ho j hj hji
  have:=List.all_eq_true.1 hback i (List.mem_range.2 (Array.getElem?_eq_some_iff.1 ho).1)
  simp only [ho,Bool.and_eq_true] at this
  have:=List.all_eq_true.1 this.2 j (List.mem_range.2 hji)
  simp only [Bool.or_eq_true,decide_eq_true_eq] at this
  rcases this with h|h
  ·omega
  ·exact h
 exact tail_any hb hT _ m _ a w (upTo_size hm) (Nat.le_refl _) (upTo_count hm) (fun j hj=>upTo_lt hj false) (fun j h1 h2=>upTo_ge h1 h2 true) h
/-- A family of worlds of a class, which holds with each world all that keep what stood in it. -/
structure FamC (C:World→Prop) (F:World→World):Prop where
 cls:∀ d,C (F d)
 on:∀ d W,Below (F d).heap.size (F d) W→∃ d',W=F d'
theorem famC_top {C:World→Prop} (hC:∀ W W',C W→Below W.heap.size W W'→C W') {W:World} (h:C W):FamC C (onTop W):=
 ⟨fun d=>hC _ _ h (onTop_below W d),fun d W' hb=>of_below ((onTop_below W d).trans (hb.mono (onTop_below W d).size))⟩
/-- What the one writing operation leaves. -/
def leavesUpon (P:Program) (φ:Value→World→Prop) (W:World):Result Next→Prop
 | .ok (.value u) W'=>φ u W'
 | .ok .skip W'=>φ undef W'
 | .ok (.enter f args) W'=>W'=W∧Calls P f args W (fun e W''=>∃ v,e = .returned v∧φ v W'')
 | _=>False
def leavesR (P:Program) (o:Oper) (a:Act) (W:World) (φ:Value→World→Prop):Prop:=leavesUpon P φ W ((execOp a.eval o).run P W)
/-- The walk of a segment in the order of the text; operation number c is the one that may write (none, if c is not among the told). -/
def segWalk (P:Program) (ops:Array Oper) (C:Bool→World→Prop) (T:World→World→Prop) (c:Nat) (ks:List Told) (x:Nat→Value) (G:Act):Nat→List Oper→Act→Prop
 | _,[],a=>a=G
 | i,o :: l,a=>match toldAt ks i with
  | none=>∃ v,(∀ b F,FamC (C b) F→Facts ops ks o x F→if Region.wanted o (yielded ops a.tmps)=true then ∀ K:Act→Prop,K (a.put o.dst v)→o.quiet P a (fun W=>∃ d,W=F d) K else v=undef)∧segWalk P ops C T c ks x G (i+1) l (a.put o.dst v)
  | some e=>(Region.wanted o (yielded ops a.tmps)=true∧(i≠c→∀ b F,FamC (C b) F→Facts ops ks o x F→∀ d,yieldsR P o a (F d) e.φ)∧(i=c→∀ W,C false W→Facts ops ks o x (fun _=>W)→leavesR P o a W (fun v W'=>e.φ v W'∧C true W'∧T W W')))∧segWalk P ops C T c ks x G (i+1) l (a.put (some e.t) (x e.k))
theorem put_out {a:Act} {t:Nat} {v:Value} (h:a.tmps.size≤t):a.put (some t) v=a:=by
 cases a
 simp only at h
 simp [Act.put,Array.setIfInBounds,Nat.not_lt.2 h]
/-- The slot that an operation writes; one beyond the frame's where it writes none (a store). -/
def dstOf (n:Nat) (o:Oper) (t:Tmp):Prop:=o.dst=some t∨(o.dst=none∧n≤t)
theorem dstOf.put {n:Nat} {o:Oper} {t:Tmp} (h:dstOf n o t) {a:Act} (hn:a.tmps.size=n) (v:Value):a.put (some t) v=a.put o.dst v:=by
 rcases h with h|⟨h,h2⟩
 ·rw [h]
 ·rw [h,put_out (by omega)]
  rfl
theorem seg_off {C:Bool→World→Prop} {T:World→World→Prop} {c:Nat} {ks:List Told} {x:Nat→Value} {G:Act} {n:Nat}:∀ (l:List Oper) (i:Nat) (a:Act),a.tmps.size=n→(∀ j e,toldAt ks (i+j)=some e→∀ o,l[j]?=some o→dstOf n o e.t)→segWalk P ops C T c ks x G i l a→
  G.tmps.size=a.tmps.size∧G.defers=a.defers∧∀ t,t∉dsts l→G.tmps[t]?=a.tmps[t]?
 | [],i,a,_,_,h=>by
  obtain rfl:a=G:=h
  exact ⟨rfl,rfl,fun _ _=>rfl⟩
 | o :: l,i,a,hn,hk,h=>by
  obtain ⟨v,hv⟩:∃ v,segWalk P ops C T c ks x G (i+1) l (a.put o.dst v):=by
   rw [segWalk] at h
   split at h
   ·obtain ⟨v,_,h2⟩:=h
    exact ⟨v,h2⟩
   ·rename_i e he
    have:=hk 0 e he o rfl
    exact ⟨_,by rw [← this.put hn];exact h.2⟩
  obtain ⟨h1,h2,h3⟩:=seg_off l (i+1) _ (by rw [put_size];exact hn) (fun j e he o ho=>hk (j+1) e (by rw [show i+(j+1)=i+1+j by omega];exact he) o (by simpa using ho)) hv
  refine ⟨by rw [h1,put_size],by rw [h2,put_defs],fun t ht=>?_⟩
  rw [h3 t (fun hm=>ht (by
   obtain ⟨x,hx,hd⟩:=List.mem_filterMap.1 hm
   exact List.mem_filterMap.2 ⟨x,List.mem_cons_of_mem _ hx,hd⟩)),put_off (fun hd=>ht (List.mem_filterMap.2 ⟨o,List.mem_cons_self,hd⟩))]
/-- What an operation yields in the last frame G. -/
def SegFit (P:Program) (ops:Array Oper) (C:Bool→World→Prop) (T:World→World→Prop) (c:Nat) (ks:List Told) (x:Nat→Value) (G:Act) (i:Nat) (o:Oper):Prop:=
 match toldAt ks i with
  | none=>∀ b F,FamC (C b) F→Facts ops ks o x F→(Region.wanted o (yielded ops G.tmps)=true∧∃ v,(∀ t,o.dst=some t→G.tmps[t]?=some v)∧∀ d,o.quietAt P G (fun W=>∃ d,W=F d) (F d) v)∨(Region.wanted o (yielded ops G.tmps)=false∧∀ t,o.dst=some t→G.tmps[t]?=some undef)
  | some e=>Region.wanted o (yielded ops G.tmps)=true∧(i≠c→∀ b F,FamC (C b) F→Facts ops ks o x F→∀ d,yieldsR P o G (F d) e.φ)∧(i=c→∀ W,C false W→Facts ops ks o x (fun _=>W)→leavesR P o G W (fun v W'=>e.φ v W'∧C true W'∧T W W'))
theorem seg_fit {C:Bool→World→Prop} {T:World→World→Prop} {c:Nat} {ks:List Told} {x:Nat→Value} {G:Act} (n:Nat):∀ (l:List Oper) (i:Nat) (a:Act),a.tmps.size=n→(∀ o,o∈l→∀ cs b,o.op≠.select cs b)→lexOk ops n l=true→
  (∀ j e,toldAt ks (i+j)=some e→∀ o,l[j]?=some o→dstOf n o e.t)→segWalk P ops C T c ks x G i l a→∀ j o,l[j]?=some o→SegFit P ops C T c ks x G (i+j) o
 | [],_,_,_,_,_,_,_,j,o,ho=>by simp at ho
 | o :: l,i,a,hn,hs,hl,hk,h,j,p,hp=>by
  have off:=seg_off (o :: l) i a hn hk h
  rw [lexOk,Bool.and_eq_true,Bool.and_eq_true] at hl
  obtain ⟨⟨hd,hlook⟩,hl⟩:=hl
  have look:∀ t,t∈o.looksAt ops→G.tmps[t]?=a.tmps[t]?:=fun t ht=>off.2.2 t (fun hm=>by
   have:=List.all_eq_true.1 hlook t hm
   simp at this
   exact this ht)
  have he:=exec_same (ops:=ops) (hs o List.mem_cons_self) look
  have hw:=wanted_same look
  have hk':∀ j e,toldAt ks (i+1+j)=some e→∀ o,l[j]?=some o→dstOf n o e.t:=fun j e he o ho=>hk (j+1) e (by rw [show i+(j+1)=i+1+j by omega];exact he) o (by simpa using ho)
  have next:∀ v,segWalk P ops C T c ks x G (i+1) l (a.put o.dst v)→∀ j p,(o :: l)[j+1]?=some p→SegFit P ops C T c ks x G (i+(j+1)) p:=fun v hv j p hp=>by
   have:=seg_fit n l (i+1) (a.put o.dst v) (by rw [put_size];exact hn) (fun o ho=>hs o (List.mem_cons_of_mem _ ho)) hl hk' hv j p (by simpa using hp)
   rw [show i+(j+1)=i+1+j by omega]
   exact this
  have later:∀ v,segWalk P ops C T c ks x G (i+1) l (a.put o.dst v)→∀ t,o.dst=some t→G.tmps[t]?=some v:=by
   intro v hv t ht
   rw [ht] at hd hv
   simp at hd
   rw [(seg_off l (i+1) _ (by rw [put_size];exact hn) hk' hv).2.2 t hd.2,put_on (by rw [hn];exact hd.1)]
  rw [segWalk] at h
  cases hc:toldAt ks i with
  | none=>
   rw [hc] at h
   obtain ⟨v,h1,h2⟩:=h
   cases j with
   | succ j=>exact next v h2 j p hp
   | zero=>
    simp only [List.getElem?_cons_zero,Option.some.injEq] at hp
    subst hp
    unfold SegFit
    rw [Nat.add_zero,hc]
    intro b F hF hf
    have h3:=h1 b F hF hf
    by_cases c:Region.wanted o (yielded ops a.tmps)=true
    ·rw [if_pos c] at h3
     obtain ⟨u,hu,hK⟩:=h3 (fun a'=>a'=a.put o.dst v) rfl
     left
     refine ⟨hw.trans c,u,?_,fun d=>?_⟩
     ·intro t ht
      rw [later v h2 t ht]
      rw [ht] at hK hd
      simp at hd
      have e1:(a.put (some t) u).tmps[t]?=(a.put (some t) v).tmps[t]?:=congrArg (fun a=>a.tmps[t]?) hK
      rw [put_on (by rw [hn];exact hd.1),put_on (by rw [hn];exact hd.1)] at e1
      exact e1.symm
     ·have:=hu _ ⟨d,rfl⟩
      unfold Oper.quietAt at *
      rw [he]
      exact this
    ·rw [if_neg c] at h3
     right
     refine ⟨hw.trans (by simpa using c),fun t ht=>?_⟩
     rw [later v h2 t ht,h3]
  | some e=>
   rw [hc] at h
   have hde:=hk 0 e hc o rfl
   cases j with
   | succ j=>exact next (x e.k) (by rw [← hde.put hn];exact h.2) j p hp
   | zero=>
    simp only [List.getElem?_cons_zero,Option.some.injEq] at hp
    subst hp
    unfold SegFit
    rw [Nat.add_zero,hc]
    obtain ⟨g1,g2,g3⟩:=h.1
    refine ⟨hw.trans g1,fun hne b F hF hf d=>?_,fun heq W hW hf=>?_⟩
    ·have:=g2 hne b F hF hf d
     unfold yieldsR at *
     rw [he]
     exact this
    ·have:=g3 heq W hW hf
     unfold leavesR at *
     rw [he]
     exact this
/-- The shape of the segment from k to m: what stands from m on waits for all of it. -/
def segB (ops:Array Oper) (k m:Nat):Bool:=
 decide (m≤ops.size) && Region.noSelect ops &&
 ((List.range ops.size).all fun i=>match ops[i]? with
  | none=>false
  | some o=>(o.after.all fun e=>!Region.binds .any e || decide (e.on < i)) && (decide (i≤m) || (List.range i).any fun j=>decide (m≤j) && waits o j)) &&
 (decide (ops.size≤m) || (List.range m).all fun j=>decide (j < k) || (List.range (m+1)).any fun n=>decide (j < n) && match ops[n]? with
  | none=>false
  | some o=>waits o j) &&
 ((List.range m).all fun i=>decide (i < k) || match ops[i]? with
  | none=>false
  | some o=>(List.range m).all fun j=>decide (j < k) || match (ops[j]?).bind (·.dst) with
   | none=>true
   | some t=>(!(o.looksAt ops).contains t || waits o j) && (i==j || o.dst != some t))
/-- Each told operation is in the segment and writes the slot that it names; no two of them write one slot. -/
def toldS (ops:Array Oper) (ks:List Told) (k m n:Nat):Bool:=
 (ks.all fun e=>decide (k≤e.k) && decide (e.k < m) && (decide (e.t < n) && (((ops[e.k]?).bind (·.dst))==some e.t) || decide (n≤e.t) && (((ops[e.k]?).bind (·.dst))==none) && ops.toList.all fun o=>!(o.looksAt ops).contains e.t)) && decide (ks.map (·.t)).Nodup && decide (ks.map (·.k)).Nodup
structure InvS (ops:Array Oper) (C:Bool→World→Prop) (c:Nat) (ks:List Told) (k m:Nat) (G:Act) (listed:Array Bool) (s:Act) (W:World) (x:Nat→Value):Prop where
 size:listed.size=ops.size
 done:∀ j,j < k→listed.getD j false=true
 head:∀ j,m≤j→j < ops.size→listed.getD j true=false
 fsize:s.tmps.size=G.tmps.size
 fdef:s.defers=G.defers
 slot:∀ t,(∀ j o,k≤j→j < m→ops[j]?=some o→o.dst=some t→listed.getD j false=true)→s.tmps[t]?=G.tmps[t]?
 cls:C (listed.getD c false) W
 told:∀ e,e∈ks→listed.getD e.k false=true→e.φ (x e.k) W
 closed:∀ j o,ops[j]?=some o→listed.getD j false=true→∀ e∈o.after,Region.binds .any e=true→listed.getD e.on false=true
theorem InvS.all {C:Bool→World→Prop} {c:Nat} {W:World} {ks:List Told} {k m:Nat} {G s:Act} {listed:Array Bool} {x:Nat→Value} (hI:InvS ops C c ks k m G listed s W x) (h:∀ j,j < m→listed.getD j false=true):s=G:=by
 have h1:s.tmps=G.tmps:=Array.ext_getElem? fun t=>hI.slot t fun j _ _ hj _ _=>h j hj
 have h2:=hI.fdef
 cases s
 cases G
 simp only at h1 h2
 rw [h1,h2]
theorem seg_any {C:Bool→World→Prop} {T:World→World→Prop} {c:Nat} {ks:List Told} {k m n:Nat} {G:(Nat→Value)→Act} {G0:Act} (hB:segB ops k m=true) (hK:toldS ops ks k m n=true) (hkm:k≤m)
  (hC:∀ b W W',C b W→Below W.heap.size W W'→C b W')
  (hcc:(∃ e,e∈ks∧e.k=c)∨m≤c)
  (hφ:∀ e,e∈ks→∀ v W W',e.φ v W→Below W.heap.size W W'→e.φ v W')
  (hT:∀ e,e∈ks→e.k≠c→∀ v W W',e.φ v W→C false W→T W W'→e.φ v W')
  (hG:∀ x,G x=putsK ks x G0) (hn:G0.tmps.size=n)
  (hfit:∀ x i o,k≤i→i < m→ops[i]?=some o→SegFit P ops C T c ks x (G x) i o)
  (ht:∀ W x,C (decide (c < m)) W→(∀ e,e∈ks→e.φ (x e.k) W)→wpFrom P ops Q m (G x) W):
  ∀ (fuel:Nat) (listed:Array Bool) (s:Act) (W:World) (x:Nat→Value),listed.toList.count false=fuel→InvS ops C c ks k m (G x) listed s W x→wpAny P .any ops Q fuel listed s W:=by
 simp only [segB,Bool.and_eq_true,decide_eq_true_eq] at hB
 obtain ⟨⟨⟨⟨hm,hsel⟩,hback⟩,hsink⟩,hX⟩:=hB
 simp only [toldS,Bool.and_eq_true,decide_eq_true_eq] at hK
 obtain ⟨⟨hK,hKt⟩,hKk⟩:=hK
 have hK':∀ e,e∈ks→(k≤e.k∧e.k < m)∧((e.t < n∧(ops[e.k]?).bind (·.dst)=some e.t)∨((n≤e.t∧(ops[e.k]?).bind (·.dst)=none)∧∀ o,o∈ops→(o.looksAt ops).contains e.t=false)):=by
  intro e he
  have:=List.all_eq_true.1 hK e he
  simp only [Bool.and_eq_true,Bool.or_eq_true,decide_eq_true_eq,beq_iff_eq] at this
  refine ⟨this.1,this.2.imp id fun h=>⟨h.1,fun o ho=>?_⟩⟩
  have:=List.all_eq_true.1 h.2 o (Array.mem_toList_iff.2 ho)
  simpa using this
 have hb:∀ i o,ops[i]?=some o→∀ e∈o.after,Region.binds .any e=true→e.on < i:=by
  intro i o ho e he hbi
  have:=List.all_eq_true.1 hback i (List.mem_range.2 (Array.getElem?_eq_some_iff.1 ho).1)
  simp only [ho,Bool.and_eq_true] at this
  have h1:=Array.all_eq_true_iff_forall_mem.1 this.1 e he
  simpa [hbi] using h1
 have hT':∀ i o,ops[i]?=some o→m < i→∃ j,m≤j∧j < i∧waits o j=true:=by
  intro i o ho hj
  have:=List.all_eq_true.1 hback i (List.mem_range.2 (Array.getElem?_eq_some_iff.1 ho).1)
  simp only [ho,Bool.and_eq_true] at this
  have:=this.2
  simp only [Bool.or_eq_true,decide_eq_true_eq] at this
  rcases this with h|h
  ·omega
  ·obtain ⟨j,hj1,hj2⟩:=List.any_eq_true.1 h
   simp only [Bool.and_eq_true,decide_eq_true_eq] at hj2
   exact ⟨j,hj2.1,List.mem_range.1 hj1,hj2.2⟩
 have hS:m < ops.size→∀ j,k≤j→j < m→∃ n o,j < n∧n≤m∧ops[n]?=some o∧waits o j=true:=by
  intro hlt j hkj hj
  rw [Bool.or_eq_true] at hsink
  rcases hsink with h|h
  ·simp at h;omega
  ·have h0:=List.all_eq_true.1 h j (List.mem_range.2 hj)
   rw [Bool.or_eq_true] at h0
   rcases h0 with h0|h0
   ·simp at h0;omega
   ·obtain ⟨n,hk,h1⟩:=List.any_eq_true.1 h0
    simp only [Bool.and_eq_true,decide_eq_true_eq] at h1
    have hk':n < ops.size:=by have:=List.mem_range.1 hk;omega
    have ho:ops[n]?=some ops[n]:=Array.getElem?_eq_getElem hk'
    rw [ho] at h1
    exact ⟨n,_,h1.1,by have:=List.mem_range.1 hk;omega,ho,h1.2⟩
 have hX':∀ i o,k≤i→i < m→ops[i]?=some o→∀ j t,k≤j→j < m→(ops[j]?).bind (·.dst)=some t→(t∈o.looksAt ops→waits o j=true)∧(i≠j→o.dst≠some t):=by
  intro i o hki hi ho j t hkj hj hd
  have h0:=List.all_eq_true.1 hX i (List.mem_range.2 hi)
  rw [Bool.or_eq_true] at h0
  have h0:_:=h0.resolve_left (by simp;omega)
  simp only [ho] at h0
  have h1:=List.all_eq_true.1 h0 j (List.mem_range.2 hj)
  rw [Bool.or_eq_true] at h1
  have this:=h1.resolve_left (by simp;omega)
  simp only [hd,Bool.and_eq_true,Bool.or_eq_true,bne_iff_ne,beq_iff_eq,Bool.not_eq_true',List.contains_eq_mem,decide_eq_false_iff_not] at this
  refine ⟨fun hl=>?_,fun hne=>?_⟩
  ·rcases this.1 with h|h
   ·exact absurd hl h
   ·exact h
  ·rcases this.2 with h|h
   ·exact absurd h hne
   ·exact h
 have gsize:∀ x,(G x).tmps.size=n:=fun x=>by rw [hG,putsK_size];exact hn
 have gat:∀ x e,e∈ks→e.t < n→(G x).tmps[e.t]?=some (x e.k):=fun x e he hlt=>by
  rw [hG]
  exact putsK_at x ks G0 hKt e he (by rw [hn];exact hlt)
 have finish:∀ (listed:Array Bool) (s:Act) (W:World) (x:Nat→Value),InvS ops C c ks k m (G x) listed s W x→(∀ j,j < m→listed.getD j false=true)→wpAny P .any ops Q (listed.toList.count false) listed s W:=by
  intro listed s W x hI hall
  have hs:=hI.all hall
  have hl:=upTo_eq hI.size hm hall hI.head
  have hcl:listed.getD c false=decide (c < m):=by
   rw [hl]
   rcases Nat.lt_or_ge c m with h|h
   ·rw [upTo_lt h];simp [h]
   ·have:decide (c < m)=false:=by simp;omega
    rw [this]
    rcases Nat.lt_or_ge c ops.size with h'|h'
    ·exact upTo_ge h h' _
    ·exact upTo_out hm h' _
  have h:=ht W x (by rw [← hcl];exact hI.cls) (fun e he=>hI.told e he (hall _ (hK' e he).1.2))
  unfold wpFrom at h
  rw [hl,upTo_count hm,hs]
  exact h
 intro fuel
 induction fuel with
 | zero=>
  intro listed s W x hc hI
  have hall:∀ j,j < m→listed.getD j false=true:=fun j hj=>listed_of (by rw [hI.size];omega) (count_none hc j)
  have:=finish listed s W x hI hall
  rw [hc] at this
  exact this
 | succ fuel ih=>
  intro listed s W x hc hI
  refine ⟨fun hr=>by
   obtain ⟨i,hi⟩:=count_some hc
   exact absurd hr (first_ready hI.size hb i hi),fun i hi=>?_⟩
  obtain ⟨hun,o,ho,hall⟩:=mem_ready.1 hi
  have hilt:i < ops.size:=(Array.getElem?_eq_some_iff.1 ho).1
  have hki:k≤i:=by
   rcases Nat.lt_or_ge i k with h|h
   ·have h1:=hI.done i h
    have h2:=(unlisted hun).2
    rw [h1] at h2;cases h2
   ·exact h
  rcases Nat.lt_or_ge i m with him|him
  ·have look:∀ t,t∈o.looksAt ops→s.tmps[t]?=(G x).tmps[t]?:=fun t htl=>
    hI.slot t fun j oj hkj hj hoj hd=>waits_listed ((hX' i o hki him ho j t hkj hj (by rw [hoj];exact hd)).1 htl) hall
   have he:=exec_same (ops:=ops) (Region.noSelect_spec hsel i o · · ho) look
   have hwt:=wanted_same look
   have told_at:∀ e,e∈ks→(o.looksAt ops).contains e.t=true→listed.getD e.k false=true:=fun e hek htl=>by
    obtain ⟨h1,⟨_,h3⟩|h3⟩:=hK' e hek
    ·exact waits_listed ((hX' i o hki him ho e.k e.t h1.1 h1.2 h3).1 (by simpa using htl)) hall
    ·have:=h3.2 o (Array.mem_of_getElem? ho)
     rw [htl] at this
     cases this
   have facts:Facts ops ks o x (onTop W):=fun e hek htl d=>hφ e hek _ _ _ (hI.told e hek (told_at e hek htl)) (onTop_below W d)
   have fit:=hfit x i o hki him ho
   unfold SegFit at fit
   have fam:=famC_top (hC (listed.getD c false)) hI.cls
   obtain ⟨d0,hd0⟩:=of_below (Below.refl W.heap.size W)
   have other:∀ e,e∈ks→e.k≠i→(listed.setIfInBounds i true).getD e.k false=true→listed.getD e.k false=true:=fun e _ hne h=>by
    rw [getD_set_ne false (Ne.symm hne)] at h;exact h
   have done':∀ j,j < k→(listed.setIfInBounds i true).getD j false=true:=fun j hj=>by rw [getD_set_ne false (by omega)];exact hI.done j hj
   unfold wpOp
   simp only [ho]
   cases hc1:toldAt ks i with
   | none=>
    rw [hc1] at fit
    have fit:=fit _ _ fam facts
    have hnk:=toldAt_none hc1
    have hic:i≠c:=by
     rcases hcc with ⟨e,he1,he2⟩|h
     ·rw [← he2];exact fun h=>hnk e he1 h.symm
     ·omega
    have next:∀ (v:Value) (W':World),(∀ t,o.dst=some t→(G x).tmps[t]?=some v)→Below W.heap.size W W'→wpAny P .any ops Q fuel (listed.setIfInBounds i true) (s.put o.dst v) W':=by
     intro v W' hv hbW
     refine ih _ _ W' x (count_listed hun hc) ⟨by simpa using hI.size,done',fun j hj hj'=>by rw [getD_set_ne true (by omega)];exact hI.head j hj hj',by rw [put_size];exact hI.fsize,by rw [put_defs];exact hI.fdef,fun t hcond=>?_,by rw [getD_set_ne false hic];exact hC _ _ _ hI.cls hbW,fun e hek hl=>hφ e hek _ _ _ (hI.told e hek (other e hek (hnk e hek) hl)) hbW,closed_set ho hall hI.closed⟩
     by_cases hd:o.dst=some t
     ·rw [hv t hd,hd]
      exact put_on (by rw [hI.fsize];exact (Array.getElem?_eq_some_iff.1 (hv t hd)).1)
     ·rw [put_off hd]
      refine hI.slot t fun j oj hkj hj hoj hdj=>?_
      have:=hcond j oj hkj hj hoj hdj
      by_cases c:i=j
      ·subst c
       rw [ho] at hoj
       cases hoj
       exact absurd hdj hd
      ·rw [getD_set_ne false c] at this
       exact this
    rcases fit with ⟨hw,v,hv,hq⟩|⟨hw,hu⟩
    ·rw [if_pos (hwt.trans hw)]
     left
     have hq:=hq d0
     rw [← hd0] at hq
     unfold Oper.wp
     unfold Oper.quietAt at hq
     rw [he]
     generalize (execOp (G x).eval o).run P W=r at hq
     cases r with
     | halt x w'=>exact hq.elim
     | ok n w'=>
      cases n <;> simp only [Oper.quietUpon] at hq <;> simp only [Oper.upon]
      case value u=>
       obtain ⟨e1,e2⟩:=hq
       rw [e1,e2]
       exact next v W hv (Below.refl _ _)
      case skip=>
       obtain ⟨e1,e2⟩:=hq
       rw [e1,← e2]
       exact next v W hv (Below.refl _ _)
      case enter f args=>
       obtain ⟨e1,hc⟩:=hq
       rw [e1]
       exact hc.mono fun e w'' ⟨he,d,hw''⟩=>by subst he;rw [hw''];exact next v _ hv (onTop_below W d)
    ·rw [if_neg (by rw [hwt,hw];exact Bool.false_ne_true)]
     exact next undef W hu (Below.refl _ _)
   | some e=>
    rw [hc1] at fit
    obtain ⟨hek,hei⟩:=toldAt_some hc1
    subst hei
    have hod:(e.t < n∧o.dst=some e.t)∨(n≤e.t∧o.dst=none):=by
     have:=(hK' e hek).2
     rw [ho] at this
     exact this.imp id fun h=>h.1
    have uniq:∀ e',e'∈ks→e'.k=e.k→e'=e:=fun e' he' hk=>by
     have h1:=toldAt_mem ks hKk e' he'
     rw [hk,hc1] at h1
     exact (Option.some.inj h1).symm
    have next:∀ (v:Value) (W':World),e.φ v W'→C ((listed.setIfInBounds e.k true).getD c false) W'→(∀ e',e'∈ks→e'.k≠e.k→∀ u,listed.getD e'.k false=true→e'.φ u W→e'.φ u W')→wpAny P .any ops Q fuel (listed.setIfInBounds e.k true) (s.put o.dst v) W':=by
     intro v W' hv hcls hkeep
     refine ih _ _ W' (upd x e.k v) (count_listed hun hc) ⟨by simpa using hI.size,done',fun j hj hj'=>by rw [getD_set_ne true (by omega)];exact hI.head j hj hj',by rw [put_size,hI.fsize,gsize,gsize],by rw [put_defs,hI.fdef,hG,hG,putsK_defs,putsK_defs],fun t hcond=>?_,hcls,fun e' hek' hl=>?_,closed_set ho hall hI.closed⟩
     ·by_cases hd:o.dst=some t
      ·rw [hd]
       rcases hod with ⟨hlt,hod⟩|⟨_,hod⟩
       case inr=>rw [hod] at hd;cases hd
       obtain rfl:e.t=t:=by rw [hod] at hd;exact Option.some.inj hd
       rw [gat _ e hek hlt,put_on (by rw [hI.fsize,gsize];exact hlt)]
       show some v=some (if e.k=e.k then v else x e.k)
       rw [if_pos rfl]
      ·by_cases hnt:n≤t
       ·rw [put_off hd,Array.getElem?_eq_none (by rw [hI.fsize,gsize];exact hnt),Array.getElem?_eq_none (by rw [gsize];exact hnt)]
       rw [put_off hd,hG,putsK_upd x e.k v t ks G0 G0 rfl rfl (fun e' he' hk' hh=>by
        have hh2:e.t=t:=by rw [← uniq e' he' hk'];exact hh
        rcases hod with ⟨_,hod⟩|⟨hge,_⟩
        ·exact hd (by rw [hod,hh2])
        ·exact hnt (hh2 ▸ hge)),← hG]
       refine hI.slot t fun j oj hkj hj hoj hdj=>?_
       have:=hcond j oj hkj hj hoj hdj
       by_cases c:e.k=j
       ·subst c
        rw [ho] at hoj
        cases hoj
        exact absurd hdj hd
       ·rw [getD_set_ne false c] at this
        exact this
     ·by_cases c:e'.k=e.k
      ·obtain rfl:=uniq e' hek' c
       show e'.φ (if e'.k=e'.k then v else x e'.k) W'
       rw [if_pos rfl]
       exact hv
      ·show e'.φ (if e'.k=e.k then v else x e'.k) W'
       rw [if_neg c]
       have hl':=other e' hek' c hl
       exact hkeep e' hek' c _ hl' (hI.told e' hek' hl')
    obtain ⟨hw,hy,hz⟩:=fit
    rw [if_pos (hwt.trans hw)]
    left
    by_cases hec:e.k=c
    ·have hcl:listed.getD c false=false:=by rw [← hec];exact (unlisted hun).2
     have hcs:=hI.cls
     rw [hcl] at hcs
     have hy:=hz hec W hcs (fun e' hek' htl _=>hI.told e' hek' (told_at e' hek' htl))
     have hc2:(listed.setIfInBounds e.k true).getD c false=true:=by
      rw [hec] at hun ⊢
      have:=(unlisted hun).1
      simp [this]
     have next':∀ (v:Value) (W':World),(e.φ v W'∧C true W'∧T W W')→wpAny P .any ops Q fuel (listed.setIfInBounds e.k true) (s.put o.dst v) W':=fun v W' ⟨h1,h2,h3⟩=>
      next v W' h1 (by rw [hc2];exact h2) (fun e' he' hne u _ hu=>hT e' he' (by rw [← hec];exact hne) u W W' hu hcs h3)
     unfold Oper.wp
     unfold leavesR at hy
     rw [he]
     generalize (execOp (G x).eval o).run P W=r at hy
     cases r with
     | halt x w'=>exact hy.elim
     | ok n w'=>
      cases n <;> simp only [leavesUpon] at hy <;> simp only [Oper.upon]
      case value u=>exact next' u w' hy
      case skip=>exact next' undef w' hy
      case enter f args=>
       obtain ⟨e1,hc⟩:=hy
       rw [e1]
       exact hc.mono fun e' w'' ⟨v,he',h1⟩=>by subst he';exact next' v w'' h1
    ·have hy:=hy hec _ _ fam facts d0
     rw [← hd0] at hy
     have next':∀ (v:Value) (W':World),e.φ v W'→Below W.heap.size W W'→wpAny P .any ops Q fuel (listed.setIfInBounds e.k true) (s.put o.dst v) W':=fun v W' h1 h2=>
      next v W' h1 (by rw [getD_set_ne false hec];exact hC _ _ _ hI.cls h2) (fun e' he' _ u _ hu=>hφ e' he' u W W' hu h2)
     unfold Oper.wp
     unfold yieldsR at hy
     rw [he]
     generalize (execOp (G x).eval o).run P W=r at hy
     cases r with
     | halt x w'=>exact hy.elim
     | ok n w'=>
      cases n <;> simp only [yieldsUpon] at hy <;> simp only [Oper.upon]
      case value u=>exact next' u w' hy.1 hy.2
      case skip=>exact next' undef w' hy.1 hy.2
      case enter f args=>
       obtain ⟨e1,hc⟩:=hy
       rw [e1]
       exact hc.mono fun e' w'' ⟨v,he',h1,h2⟩=>by subst he';exact next' v w'' h1 h2
  ·obtain rfl:i=m:=by
    rcases Nat.lt_or_ge m i with c|c
    ·obtain ⟨j,h0,h1,h2⟩:=hT' i o ho c
     have h3:=waits_listed h2 hall
     have h4:=(unlisted (hI.head j h0 (by omega))).2
     rw [h3] at h4;cases h4
    ·omega
   have hl:∀ d j,i - j=d→k≤j→j < i→listed.getD j false=true:=by
    intro d
    induction d using Nat.strongRecOn with
    | _ d ihd=>
     intro j hd hkj hj
     obtain ⟨n,on,hjn,hn,hon,hwn⟩:=hS hilt j hkj hj
     rcases Nat.lt_or_ge n i with c|c
     ·have:=ihd (i - n) (by omega) n rfl (by omega) c
      exact waits_listed hwn (hI.closed n on hon this)
     ·obtain rfl:n=i:=by omega
      rw [ho] at hon
      cases hon
      exact waits_listed hwn hall
   have hl':∀ j,j < i→listed.getD j false=true:=fun j hj=>by
    rcases Nat.lt_or_ge j k with c|c
    ·exact hI.done j c
    ·exact hl (i - j) j rfl c hj
   have h:=finish listed s W x hI hl'
   rw [hc] at h
   exact h.2 i hi
/-- THE LAW of one segment, from k to m. -/
theorem seg {a:Act} {w:World} {l:List Oper} (C:Bool→World→Prop) (T:World→World→Prop) (c:Nat) (ks:List Told) (k m n:Nat) (hn:a.tmps.size=n) (hl:l=(ops.toList.drop k).take (m - k)) (hB:(decide (k≤m) && segB ops k m && lexOk ops n l)=true) (hK:toldS ops ks k m n=true)
  (hC:∀ b W W',C b W→Below W.heap.size W W'→C b W') (hw:C false w)
  (hcc:(∃ e,e∈ks∧e.k=c)∨m≤c)
  (hφ:∀ e,e∈ks→∀ v W W',e.φ v W→Below W.heap.size W W'→e.φ v W')
  (hT:∀ e,e∈ks→e.k≠c→∀ v W W',e.φ v W→C false W→T W W'→e.φ v W')
  (h:∃ G:(Nat→Value)→Act,(∀ x,segWalk P ops C T c ks x (G x) k l a)∧(∀ x,G x=putsK ks x (G fun _=>undef))∧
   ∀ W x,C (decide (c < m)) W→(∀ e,e∈ks→e.φ (x e.k) W)→wpFrom P ops Q m (G x) W):wpFrom P ops Q k a w:=by
 obtain ⟨G,h1,h2,h3⟩:=h
 simp only [Bool.and_eq_true,decide_eq_true_eq] at hB
 obtain ⟨⟨hkm,hB1⟩,hlex⟩:=hB
 have hB':=hB1
 simp only [segB,Bool.and_eq_true,decide_eq_true_eq] at hB'
 have hms:=hB'.1.1.1.1
 have hK2:=hK
 simp only [toldS,Bool.and_eq_true,decide_eq_true_eq] at hK2
 have hKe:∀ e,e∈ks→k≤e.k∧e.k < m:=fun e hek=>by
  have:=List.all_eq_true.1 hK2.1.1 e hek
  simp only [Bool.and_eq_true,Bool.or_eq_true,decide_eq_true_eq,beq_iff_eq] at this
  exact this.1
 have at_:∀ j,k+j < m→l[j]?=ops[k+j]?:=by
  intro j hj
  rw [hl,List.getElem?_take_of_lt (by omega),List.getElem?_drop]
  simp
 have hk:∀ j e,toldAt ks (k+j)=some e→∀ o,l[j]?=some o→dstOf n o e.t:=by
  intro j e he o ho
  obtain ⟨hek,hej⟩:=toldAt_some he
  have:=List.all_eq_true.1 hK2.1.1 e hek
  simp only [Bool.and_eq_true,Bool.or_eq_true,decide_eq_true_eq,beq_iff_eq] at this
  rw [at_ j (by rw [← hej];exact this.1.2)] at ho
  have h4:=this.2
  rw [hej,ho] at h4
  exact h4.imp (fun h=>h.2) fun h=>⟨h.1.2,h.1.1⟩
 have hsel:∀ o,o∈l→∀ cs b,o.op≠.select cs b:=by
  intro o ho cs b
  rw [hl] at ho
  obtain ⟨j,hj,e⟩:=List.getElem_of_mem (List.mem_of_mem_drop (List.mem_of_mem_take ho))
  exact Region.noSelect_spec hB'.1.1.1.2 j o cs b (by rw [← e];simp at hj ⊢)
 have hsz:∀ x,(G x).tmps.size=n:=fun x=>by rw [(seg_off l k a hn hk (h1 x)).1,hn]
 have off:=seg_off l k a hn hk (h1 fun _=>undef)
 unfold wpFrom
 refine seg_any (C:=C) (T:=T) (c:=c) (ks:=ks) (k:=k) (m:=m) (n:=n) (G:=G) (G0:=G fun _=>undef) hB1 hK hkm hC hcc hφ hT h2 (hsz _) (fun x i o hki hi ho=>?_) h3 _ _ _ _ (fun _=>undef) ?_ ⟨upTo_size (Nat.le_trans hkm hms),fun j hj=>upTo_lt hj _,fun j hj hj'=>upTo_ge (Nat.le_trans hkm hj) hj' _,off.1.symm,off.2.1.symm,fun t hc=>?_,?_,fun e he hl=>?_,fun j o ho hl e he hbi=>?_⟩
 ·have:=seg_fit n l k a hn hsel hlex hk (h1 x) (i - k) o (by rw [at_ (i - k) (by omega),show k+(i - k)=i by omega];exact ho)
  rw [show k+(i - k)=i by omega] at this
  exact this
 ·exact upTo_count (Nat.le_trans hkm hms)
 ·refine (off.2.2 t fun hm'=>?_).symm
  obtain ⟨o,ho,hd⟩:=List.mem_filterMap.1 hm'
  obtain ⟨j,hj,e⟩:=List.getElem_of_mem ho
  have hjl:j < m - k:=by rw [hl] at hj;simp at hj;omega
  have ho':ops[k+j]?=some o:=by rw [← at_ j (by omega),List.getElem?_eq_getElem hj,e]
  have hlt:k+j < ops.size:=(Array.getElem?_eq_some_iff.1 ho').1
  have:=hc (k+j) o (by omega) (by omega) ho' hd
  rw [upTo_ge (by omega) hlt] at this
  cases this
 ·have:(upTo ops.size k).getD c false=false:=by
   have hkc:k≤c:=by
    rcases hcc with ⟨e,he1,he2⟩|h
    ·rw [← he2];exact (hKe e he1).1
    ·omega
   rcases Nat.lt_or_ge c ops.size with h|h
   ·exact upTo_ge hkc h _
   ·exact upTo_out (Nat.le_trans hkm hms) h _
  rw [this]
  exact hw
 ·obtain ⟨h4,h5⟩:=hKe e he
  rw [upTo_ge h4 (by omega)] at hl
  cases hl
 ·have hlt:j < ops.size:=(Array.getElem?_eq_some_iff.1 ho).1
  have hjk:j < k:=by
   rcases Nat.lt_or_ge j k with h|h
   ·exact h
   ·rw [upTo_ge h hlt] at hl;cases hl
  have h6:=List.all_eq_true.1 hB'.1.1.2 j (List.mem_range.2 hlt)
  simp only [ho,Bool.and_eq_true] at h6
  have h7:=Array.all_eq_true_iff_forall_mem.1 h6.1 e he
  have h8:e.on < j:=by simpa [hbi] using h7
  exact upTo_lt (by omega) _
theorem segQuiet {C:Bool→World→Prop} {T:World→World→Prop} {c:Nat} {ks:List Told} {x:Nat→Value} {G a:Act} {i:Nat} {o:Oper} {l:List Oper} (hk:toldAt ks i=none) (hw:Region.wanted o (yielded ops a.tmps)=true)
  (h:∃ v,(∀ b F,FamC (C b) F→Facts ops ks o x F→∀ K:Act→Prop,K (a.put o.dst v)→o.quiet P a (fun W=>∃ d,W=F d) K)∧segWalk P ops C T c ks x G (i+1) l (a.put o.dst v)):segWalk P ops C T c ks x G i (o :: l) a:=by
 rw [segWalk,hk]
 obtain ⟨v,h1,h2⟩:=h
 exact ⟨v,fun b F hF hf=>by rw [if_pos hw];exact h1 b F hF hf,h2⟩
theorem segTold {C:Bool→World→Prop} {T:World→World→Prop} {c:Nat} {ks:List Told} {x:Nat→Value} {G a:Act} {i:Nat} {o:Oper} {l:List Oper} {e:Told} (hk:toldAt ks i=some e) (hi:i≠c) (hw:Region.wanted o (yielded ops a.tmps)=true)
  (h1:∀ b F,FamC (C b) F→Facts ops ks o x F→∀ d,yieldsR P o a (F d) e.φ) (h2:segWalk P ops C T c ks x G (i+1) l (a.put (some e.t) (x e.k))):segWalk P ops C T c ks x G i (o :: l) a:=by
 rw [segWalk,hk]
 exact ⟨⟨hw,fun _=>h1,fun h=>absurd h hi⟩,h2⟩
theorem segBusy {C:Bool→World→Prop} {T:World→World→Prop} {c:Nat} {ks:List Told} {x:Nat→Value} {G a:Act} {i:Nat} {o:Oper} {l:List Oper} {e:Told} (hk:toldAt ks i=some e) (hi:i=c) (hw:Region.wanted o (yielded ops a.tmps)=true)
  (h1:∀ W,C false W→Facts ops ks o x (fun _=>W)→leavesR P o a W (fun v W'=>e.φ v W'∧C true W'∧T W W')) (h2:segWalk P ops C T c ks x G (i+1) l (a.put (some e.t) (x e.k))):segWalk P ops C T c ks x G i (o :: l) a:=by
 rw [segWalk,hk]
 exact ⟨⟨hw,fun h=>absurd hi h,fun _=>h1⟩,h2⟩
theorem segStore {C:Bool→World→Prop} {T:World→World→Prop} {c:Nat} {ks:List Told} {x:Nat→Value} {G a:Act} {i:Nat} {o:Oper} {l:List Oper} {e:Told} (hk:toldAt ks i=some e) (hi:i=c) (hw:Region.wanted o (yielded ops a.tmps)=true) (hout:a.tmps.size≤e.t)
  (h1:∀ W,C false W→Facts ops ks o x (fun _=>W)→leavesR P o a W (fun v W'=>e.φ v W'∧C true W'∧T W W')) (h2:segWalk P ops C T c ks x G (i+1) l a):segWalk P ops C T c ks x G i (o :: l) a:=by
 rw [segWalk,hk]
 exact ⟨⟨hw,fun h=>absurd hi h,fun _=>h1⟩,by rw [put_out hout];exact h2⟩
theorem segEnd {C:Bool→World→Prop} {T:World→World→Prop} {c:Nat} {ks:List Told} {x:Nat→Value} {G a:Act} {i:Nat} (h:a=G):segWalk P ops C T c ks x G i [] a:=h
end
end Go.Proofs.YtpdkkcnmgiihcaaGreatDoor.Wd
namespace Go.Proofs.YtpdkkcnmgiihcaaGreatDoor.Wd
open Go.RowKit Fx
def leafE (ns:List Nd) (d x:List Int):Int:=if 512≤ns.length then 2 else if isP d x then 0 else 1
def leafR (ns:List Nd) (d x:List Int):Int:=if ns.length < 512∧isP d x then (ns.length:Int) else 0
def leafN (ns:List Nd) (d x:List Int):List Nd:=if ns.length < 512∧isP d x then ns++[⟨1,-1,-1,0,d,x⟩] else ns
theorem OwnK.form_ {e:TypeId} {W:World} {B:Nat} {v:Value} {l:List Int} (h:OwnK .i64 e W B v l):∃ p n c,v = .slice p n c:=by
 obtain ⟨p,n,c,e,_⟩:=h.nums.lst
 exact ⟨p,n,c,e⟩
theorem OwnN_block {e:TypeId} {W:World} {B n:Nat} {v:Value} {xs:List Value} (h:W.ownsRow B e 6 v n xs):∀ j,v.ownBlock=some j→B≤j:=fun j hj=>(World.ownsRow.lt h j hj).1
theorem box3 {w W0:World} {a b c d e f:Value} (h:((w.alloc (.cells #[a,b] 31)).alloc (.cells #[c,d] 31)).alloc (.cells #[e,f] 31)=W0):Hid (Below w.heap.size w W0)∧Hid (Cel W0 w.heap.size a b)∧Hid (Cel W0 (w.heap.size+1) c d)∧Hid (Cel W0 (w.heap.size+2) e f):=⟨hidB (w:=w) h (by go_grown),celW h (by simp [go_sem]),celW h (by simp [go_sem]),celW h (by simp [go_sem])⟩
def ndN (ns:List Nd) (i:Int):Nd:=ns.getD i.toNat ⟨0,0,0,0,[],[]⟩
abbrev okD (ns:List Nd) (op a b:Int):Prop:=(2≤op∧op≤14)∧(0≤a∧a < (ns.length:Int))∧(twoP op→0≤b∧b < (ns.length:Int))
def dB (op b:Int):Int:=if twoP op then b else -1
def dK (op k:Int):Int:=if byP op then k else 0
def dD (ns:List Nd) (op b:Int):List Int:=if twoP op then (ndN ns b).D else []
def dX (ns:List Nd) (op b:Int):List Int:=if twoP op then (ndN ns b).X else []
def dE (ns:List Nd) (op a b k:Int):Int:=rkE op (ndN ns a).D (ndN ns a).X (dD ns op b) (dX ns op b) (dK op k)
def dN (ns:List Nd) (op a b k:Int):Nd:=⟨op,a,dB op b,dK op k,rkD op (ndN ns a).D (ndN ns a).X (dD ns op b) (dX ns op b) (dK op k),rkV op (ndN ns a).D (ndN ns a).X (dD ns op b) (dX ns op b) (dK op k)⟩
def doE (ns:List Nd) (op a b k:Int):Int:=if 512≤ns.length then 2 else if okD ns op a b then dE ns op a b k else 1
abbrev doP (ns:List Nd) (op a b k:Int):Prop:=(ns.length < 512∧okD ns op a b)∧dE ns op a b k=0
def doR (ns:List Nd) (op a b k:Int):Int:=if doP ns op a b k then (ns.length:Int) else 0
def doN (ns:List Nd) (op a b k:Int):List Nd:=if doP ns op a b k then ns++[dN ns op a b k] else ns
def NodesG (ns:List Nd):Prop:=∀ nd,nd∈ns→TnsG nd.D nd.X
theorem box6 {W:World} {b:Nat} {v0 v1 v2 v3 v4 v5:Value} {e:TypeId} (h:W.heap[b]?=some (.cells #[v0,v1,v2,v3,v4,v5] e (0,0))):
  (W.cell? ⟨b,0,none⟩=some v0∧W.cell? ⟨b,1,none⟩=some v1∧W.cell? ⟨b,2,none⟩=some v2∧W.cell? ⟨b,3,none⟩=some v3∧W.cell? ⟨b,4,none⟩=some v4∧W.cell? ⟨b,5,none⟩=some v5)∧∀ j,W.frozen? ⟨b,j,none⟩=false:=by
 have c:∀ j v,#[v0,v1,v2,v3,v4,v5][j]?=some v→W.cell? ⟨b,j,none⟩=some v:=fun j v hj=>by
  unfold World.cell?
  simp only [h]
  exact hj
 refine ⟨⟨c 0 _ rfl,c 1 _ rfl,c 2 _ rfl,c 3 _ rfl,c 4 _ rfl,c 5 _ rfl⟩,fun j=>?_⟩
 unfold World.frozen?
 simp [h]
theorem nd_at {ns:List Nd} {i:Nat} {nd:Nd} (h:ns[i]?=some nd):ndN ns (i:Int)=nd:=by
 unfold ndN
 rw [show ((i:Int)).toNat=i from rfl,List.getD_eq_getElem?_getD,h]
 rfl
theorem nd_mem {ns:List Nd} {i:Nat} {nd:Nd} (h:ns[i]?=some nd):nd∈ns:=List.mem_of_getElem? h
theorem NodesG.nil:NodesG []:=fun nd h=>by simp at h
theorem NodesG.push {ns:List Nd} {nd:Nd} (h:NodesG ns) (hn:TnsG nd.D nd.X):NodesG (ns++[nd]):=fun x hx=>by
 rcases List.mem_append.1 hx with hx|hx
 ·exact h x hx
 ·simp at hx
  subst hx
  exact hn
theorem NodesG.leaf {ns:List Nd} {d x:List Int} (h:NodesG ns) (hx:RI x):NodesG (leafN ns d x):=by
 unfold leafN
 split
 ·rename_i hp
  exact h.push (tnsg hp.2 hx)
 ·exact h
theorem NodesG.at {ns:List Nd} {i:Int} (h:NodesG ns) (h0:0≤i) (h1:i < (ns.length:Int)):TnsG (ndN ns i).D (ndN ns i).X:=by
 obtain ⟨j,rfl⟩:∃ j:Nat,i=j:=⟨i.toNat,by omega⟩
 have hj:ns[j]?=some (ns[j]'(by omega)):=List.getElem?_eq_getElem _
 rw [nd_at hj]
 exact h _ (nd_mem hj)
theorem NodesG.do {ns:List Nd} {op a b k:Int} (h:NodesG ns):NodesG (doN ns op a b k):=by
 unfold doN
 split
 ·rename_i hp
  have ho:=hp.1.2
  refine h.push ?_
  exact rk_g ho.1.1 ho.1.2 (h.at ho.2.1.1 ho.2.1.2).2.2 hp.2
 ·exact h
/-- One step: its error, its number, the nodes behind it. -/
def lsE (ns:List Nd) (s:Nd):Int:=if s.op=1 then leafE ns s.D s.X else doE ns s.op s.a s.b s.k
def lsR (ns:List Nd) (s:Nd):Int:=if s.op=1 then leafR ns s.D s.X else doR ns s.op s.a s.b s.k
def lsN (ns:List Nd) (s:Nd):List Nd:=if s.op=1 then leafN ns s.D s.X else doN ns s.op s.a s.b s.k
def stA (sts:List Nd) (i:Nat):Nd:=sts.getD i ⟨1,0,0,0,[],[]⟩
/-- The first i steps: an error, the nodes, the last one's number. -/
def lyF (sts ns:List Nd):Nat→Int×List Nd×Int
 | 0=>(0,ns,0)
 | i+1=>if (lyF sts ns i).1=0 then (lsE (lyF sts ns i).2.1 (stA sts i),lsN (lyF sts ns i).2.1 (stA sts i),lsR (lyF sts ns i).2.1 (stA sts i)) else lyF sts ns i
theorem lyF_stop (sts ns:List Nd) (i:Nat) (h:(lyF sts ns i).1≠0):∀ k,lyF sts ns (i+k)=lyF sts ns i
 | 0=>rfl
 | k+1=>by
  have e:=lyF_stop sts ns i h k
  show (if (lyF sts ns (i+k)).1=0 then _ else lyF sts ns (i+k))=_
  rw [e,if_neg h]
theorem lyF_go {sts ns ms ms':List Nd} {i:Nat} {r r':Int} (h:lyF sts ns i=(0,ms,r)) (h1:lsE ms (stA sts i)=0) (h2:lsN ms (stA sts i)=ms') (h3:lsR ms (stA sts i)=r'):lyF sts ns (i+1)=(0,ms',r'):=by
 show (if (lyF sts ns i).1=0 then _ else _)=_
 rw [h]
 simp only [if_pos]
 rw [h1,h2,h3]
abbrev lyP (ns sts:List Nd):Prop:=ns.length+sts.length≤512
def lyE (ns sts:List Nd):Int:=if lyP ns sts then (lyF sts ns sts.length).1 else 2
def lyR (ns sts:List Nd):Int:=if lyP ns sts∧(lyF sts ns sts.length).1=0 then (lyF sts ns sts.length).2.2 else 0
def lyM (ns sts:List Nd):List Nd:=if lyP ns sts then (lyF sts ns sts.length).2.1 else ns
/-- Whether out and want go together; whether a class is one of out's places. -/
def fitE (ns:List Nd) (o:Int) (y:List Int):Int:=if (0≤o∧o < (ns.length:Int))∧y.length=(ndN ns o).X.length then if (ndN ns o).D.length=1 then 0 else 4 else 1
def plcE (ns:List Nd) (o c:Int):Int:=if 0≤o∧o < (ns.length:Int) then if (ndN ns o).D.length=1∧0≤c∧c < ((ndN ns o).X.length:Int) then 0 else 4 else 1
def plcN (ns:List Nd) (o c:Int):Nat:=if plcE ns o c=0 then (ndN ns o).X.length else 0
def lfS (y:List Int):Nd:=⟨1,0,0,0,[(y.length:Int)],y⟩
def opS (op a b k:Int):Nd:=⟨op,a,b,k,[],[]⟩
def sqS (N o:Int) (y:List Int):List Nd:=[lfS y,opS 3 o N 0,opS 4 (N+1) (N+1) 0,opS 10 (N+2) 0 0]
def szS (N o:Int) (y:List Int):List Nd:=[lfS y,opS 3 o N 0,opS 11 (N+1) 0 4,opS 10 (N+2) 0 0]
def butV (m:Nat) (a c t:Int):List Int:=(List.replicate m a).set c.toNat t
def hgS (N o:Int) (m:Nat) (c:Int):List Nd:=[lfS (butV m 0 c (-4294967296)),lfS (butV m 4294967296 c 0),opS 4 o N 0,opS 9 (N+2) 0 0,opS 2 o (N+3) 0,opS 2 (N+4) (N+1) 0,opS 11 (N+5) 0 1,opS 4 (N+6) (N+1) 0,opS 9 (N+7) 0 0]
/-- What a loss tells and leaves, e what was asked first. -/
def loE (e:Int) (ns sts:List Nd):Int:=if e=0 then lyE ns sts else e
def loR (e:Int) (ns sts:List Nd):Int:=if e=0 then lyR ns sts else 0
def loN (e:Int) (ns sts:List Nd):List Nd:=if e=0 then lyM ns sts else ns
theorem NodesG.ls {ns:List Nd} {s:Nd} (h:NodesG ns) (hx:RI s.X):NodesG (lsN ns s):=by
 unfold lsN
 split
 ·exact h.leaf hx
 ·exact h.do
theorem RI_nil:RI []:=fun y hy=>by simp at hy
/-- Nodes behind others. -/
theorem nd_keep {ns ms:List Nd} {i:Int} (h:0≤i∧i < (ns.length:Int)):ndN (ns++ms) i=ndN ns i:=by
 unfold ndN
 rw [List.getD_eq_getElem?_getD,List.getD_eq_getElem?_getD,List.getElem?_append_left (by omega)]
theorem nd_last (ns:List Nd) (nd:Nd):ndN (ns++[nd]) (ns.length:Int)=nd:=by
 unfold ndN
 rw [List.getD_eq_getElem?_getD,Int.toNat_natCast,List.getElem?_append_right (Nat.le_refl _),Nat.sub_self]
 rfl
theorem leaf_ok {ns:List Nd} {d x:List Int} (h:ns.length < 512) (p:isP d x):leafE ns d x=0∧leafR ns d x=(ns.length:Int)∧leafN ns d x=ns++[⟨1,-1,-1,0,d,x⟩]:=
 ⟨(if_neg (by omega)).trans (if_pos p),if_pos ⟨h,p⟩,if_pos ⟨h,p⟩⟩
theorem do_ok {ns:List Nd} {op a b k:Int} (h:ns.length < 512) (ho:okD ns op a b) (hd:dE ns op a b k=0):doE ns op a b k=0∧doR ns op a b k=(ns.length:Int)∧doN ns op a b k=ns++[dN ns op a b k]:=by
 have hP:doP ns op a b k:=⟨⟨h,ho⟩,hd⟩
 exact ⟨(if_neg (by omega)).trans ((if_pos ho).trans hd),if_pos hP,if_pos hP⟩
/-- Rows of one side. -/
structure RwP (n:Nat) (x:List Int):Prop where
 l:x.length=n
 h1:1≤n
 h2:n≤4096
theorem RwP.isP {n:Nat} {x:List Int} (h:RwP n x):isP [(n:Int)] x:=by
 have en:ntl [(n:Int)] = [n]:=ntl_itl [n]
 refine ⟨?_,?_⟩
 ·rw [en]
  exact ⟨by simp,fun y hy=>by simp at hy;have:=h.h1;omega,by have:=h.h2;simp [prodN];omega⟩
 ·rw [en,h.l]
  simp [prodN]
def mp2 (f:Int→Int→Int) (x y:List Int):List Int:=(List.range x.length).map fun i=>f (x.getD i 0) (y.getD i 0)
theorem RwP.map2 {n:Nat} {x y:List Int} (h:RwP n x) (f:Int→Int→Int):RwP n (mp2 f x y):=⟨by simp [mp2,h.l],h.h1,h.h2⟩
theorem RwP.map {n:Nat} {x:List Int} (h:RwP n x) (f:Int→Int):RwP n (x.map f):=⟨by simp [h.l],h.h1,h.h2⟩
theorem row_each {f:Int→Int→Int} {n:Nat} {x y:List Int} (hx:RwP n x) (hy:RwP n y):eachE [(n:Int)] x [(n:Int)] y=0∧eachD [(n:Int)] x [(n:Int)] y = [(n:Int)]∧eachV f [(n:Int)] x [(n:Int)] y=mp2 f x y:=by
 have px:=hx.isP
 have py:=hy.isP
 have en:ntl [(n:Int)] = [n]:=ntl_itl [n]
 have ga:goodN [n]:=by have:=px.1;rwa [en] at this
 obtain ⟨f',j⟩:=join_same [n]
 obtain ⟨p1,p2⟩:=join_fine ga ga f' (by rw [j];exact ga)
 rw [j] at p1
 have p1':joinL [(n:Int)] [(n:Int)] = [(n:Int)]:=p1
 have p2':joinE [(n:Int)] [(n:Int)]=0:=p2
 refine ⟨(if_pos ⟨px,py⟩).trans p2',(if_pos ⟨px,py⟩).trans p1',(if_pos ⟨⟨px,py⟩,p2'⟩).trans ?_⟩
 rw [p1',en]
 unfold mp2
 rw [hx.l,show prodN [n]=n by simp [prodN]]
 refine List.map_congr_left fun i hi=>?_
 have hi':=List.mem_range.1 hi
 rw [from_same ga i (by simp [prodN];omega)]
/-- A number spread over a row. -/
theorem row_each0 {f:Int→Int→Int} {n:Nat} {x:List Int} (hx:RwP n x) (s:Int):eachE [(n:Int)] x [] [s]=0∧eachD [(n:Int)] x [] [s] = [(n:Int)]∧eachV f [(n:Int)] x [] [s]=x.map fun v=>f v s:=by
 have px:=hx.isP
 have py:=is_nil s
 have en:ntl [(n:Int)] = [n]:=ntl_itl [n]
 have ga:goodN [n]:=by have:=px.1;rwa [en] at this
 have hn:goodN []:=by decide
 have j:=joinN_nil ga.2.1
 obtain ⟨p1,p2⟩:=join_fine ga hn (fitsN_nil [n]) (by rw [j];exact ga)
 rw [j] at p1
 have p1':joinL [(n:Int)] [] = [(n:Int)]:=p1
 have p2':joinE [(n:Int)] []=0:=p2
 refine ⟨(if_pos ⟨px,py⟩).trans p2',(if_pos ⟨px,py⟩).trans p1',(if_pos ⟨⟨px,py⟩,p2'⟩).trans ?_⟩
 rw [p1',en,show prodN [n]=n by simp [prodN]]
 refine List.ext_getElem (by simp [hx.l]) fun i h1 h2=>?_
 have hi:i < n:=by simpa using h1
 have hi2:i < x.length:=by rw [hx.l];exact hi
 have e0:fromN (ntl ([]:List Int)) [n] i=0:=by simp [fromN,ntl,evalN]
 simp only [List.getElem_map,List.getElem_range]
 rw [from_same ga i (by simp [prodN];omega),e0,List.getD_eq_getElem?_getD,List.getElem?_eq_getElem hi2]
 rfl
/-- Number by number, of two nodes that are rows of as many. -/
theorem do_two {ms:List Nd} {op a b:Int} (f:Int→Int→Int) (h2:twoP op) (hb:¬ byP op) (hop:2≤op∧op≤14)
  (rE:∀ D X D' X',rkE op D X D' X' 0=eachE D X D' X') (rD:∀ D X D' X',rkD op D X D' X' 0=eachD D X D' X') (rV:∀ D X D' X',rkV op D X D' X' 0=eachV f D X D' X')
  (hl:ms.length < 512) (ha:0≤a∧a < (ms.length:Int)) (hbb:0≤b∧b < (ms.length:Int)) {E:Int} {V D X D' X':List Int} (eD:(ndN ms a).D=D) (eX:(ndN ms a).X=X) (eD':(ndN ms b).D=D') (eX':(ndN ms b).X=X') {DD:List Int} (he:eachE D X D' X'=0∧eachD D X D' X'=DD∧eachV f D X D' X'=V):
  doE ms op a b 0=0∧doR ms op a b 0=(ms.length:Int)∧doN ms op a b 0=ms++[⟨op,a,b,0,DD,V⟩]:=by
 have hd:dE ms op a b 0=0:=by
  unfold dE dD dX dK
  rw [if_pos h2,if_pos h2,if_neg hb,rE,eD,eX,eD',eX']
  exact he.1
 obtain ⟨h3,h4,h5⟩:=do_ok (k:=0) hl ⟨hop,ha,fun _=>hbb⟩ hd
 refine ⟨h3,h4,h5.trans ?_⟩
 unfold dN dD dX dK dB
 rw [if_pos h2,if_pos h2,if_pos h2,if_neg hb,rD,rV,eD,eX,eD',eX',he.2.1,he.2.2]
/-- Of one node. -/
theorem do_one {ms:List Nd} {op a b k:Int} (h2:¬ twoP op) (hop:2≤op∧op≤14) (hl:ms.length < 512) (ha:0≤a∧a < (ms.length:Int)) {K:Int} {D X DD V:List Int} (eD:(ndN ms a).D=D) (eX:(ndN ms a).X=X) (eK:dK op k=K) (rE:rkE op D X [] [] K=0) (rD:rkD op D X [] [] K=DD) (rV:rkV op D X [] [] K=V):
  doE ms op a b k=0∧doR ms op a b k=(ms.length:Int)∧doN ms op a b k=ms++[⟨op,a,-1,K,DD,V⟩]:=by
 have hd:dE ms op a b k=0:=by
  unfold dE dD dX
  rw [if_neg h2,if_neg h2,eK,eD,eX]
  exact rE
 obtain ⟨h3,h4,h5⟩:=do_ok hl ⟨hop,ha,fun h=>absurd h h2⟩ hd
 refine ⟨h3,h4,h5.trans ?_⟩
 unfold dN dD dX dB
 rw [if_neg h2,if_neg h2,if_neg h2,eK,eD,eX,rD,rV]
theorem rk_all {n:Nat} {x:List Int} (h:RwP n x):rkE 9 [(n:Int)] x [] [] 0=0∧rkV 9 [(n:Int)] x [] [] 0 = [Fx.hold (totalI x)]:=by
 refine ⟨(show matE [(n:Int)] x=0 from if_pos h.isP),?_⟩
 show (if isP [(n:Int)] x then [allV [(n:Int)] x] else [])=_
 rw [if_pos h.isP]
 unfold allV
 rw [if_pos h.isP]
theorem rk_mean {n:Nat} {x:List Int} (h:RwP n x):rkE 10 [(n:Int)] x [] [] 0=0∧rkV 10 [(n:Int)] x [] [] 0 = [meanI x]:=by
 refine ⟨(show matE [(n:Int)] x=0 from if_pos h.isP),?_⟩
 show (if isP [(n:Int)] x then [meanV [(n:Int)] x] else [])=_
 rw [if_pos h.isP]
 unfold meanV
 rw [if_pos h.isP]
theorem rk_bend {n:Nat} {x:List Int} (h:RwP n x) {k:Int} (hk:1≤k∧k≤5):rkE 11 [(n:Int)] x [] [] k=0∧rkD 11 [(n:Int)] x [] [] k = [(n:Int)]∧rkV 11 [(n:Int)] x [] [] k=x.map fun y=>Fx.bendI k y:=
 ⟨(show bentE k [(n:Int)] x=0 from if_pos ⟨hk,h.isP⟩),(show bentD k [(n:Int)] x=_ from if_pos ⟨hk,h.isP⟩),(show bentV k [(n:Int)] x=_ from if_pos ⟨hk,h.isP⟩)⟩
/-- What is known of a node that is a row. -/
structure RwN (ms:List Nd) (i:Int) (n:Nat) (x:List Int):Prop where
 r:0≤i∧i < (ms.length:Int)
 D:(ndN ms i).D = [(n:Int)]
 X:(ndN ms i).X=x
theorem RwN.app {ms:List Nd} {i:Int} {n:Nat} {x:List Int} (h:RwN ms i n x) (nd:Nd):RwN (ms++[nd]) i n x:=by
 refine ⟨⟨h.r.1,by have:=h.r.2;rw [List.length_append];simp;omega⟩,?_,?_⟩
 ·rw [nd_keep h.r];exact h.D
 ·rw [nd_keep h.r];exact h.X
theorem RwN.last (ms:List Nd) (op a b k:Int) (n:Nat) (x:List Int) {i:Int} (hi:(ms.length:Int)=i):RwN (ms++[⟨op,a,b,k,[(n:Int)],x⟩]) i n x:=by
 subst hi
 refine ⟨⟨by omega,by rw [List.length_append];simp;omega⟩,?_,?_⟩ <;> rw [nd_last]
theorem go_two {ms:List Nd} {op a b:Int} (f:Int→Int→Int) (h2:twoP op) (hb:¬ byP op) (hop:2≤op∧op≤14)
  (rE:∀ D X D' X',rkE op D X D' X' 0=eachE D X D' X') (rD:∀ D X D' X',rkD op D X D' X' 0=eachD D X D' X') (rV:∀ D X D' X',rkV op D X D' X' 0=eachV f D X D' X')
  (hl:ms.length < 512) {n:Nat} {x y:List Int} (hx:RwP n x) (hy:RwP n y) (na:RwN ms a n x) (nb:RwN ms b n y):lsE ms (opS op a b 0)=0∧lsN ms (opS op a b 0)=ms++[⟨op,a,b,0,[(n:Int)],mp2 f x y⟩]∧lsR ms (opS op a b 0)=(ms.length:Int):=by
 have h1:¬ (opS op a b 0).op=1:=by show ¬ op=1;omega
 obtain ⟨e1,e2,e3⟩:=do_two (E:=0) f h2 hb hop rE rD rV hl na.r nb.r na.D na.X nb.D nb.X (row_each (f:=f) hx hy)
 exact ⟨(if_neg h1).trans e1,(if_neg h1).trans e3,(if_neg h1).trans e2⟩
theorem go_sub {ms:List Nd} {a b:Int} (hl:ms.length < 512) {n:Nat} {x y:List Int} (hx:RwP n x) (hy:RwP n y) (na:RwN ms a n x) (nb:RwN ms b n y):lsE ms (opS 3 a b 0)=0∧lsN ms (opS 3 a b 0)=ms++[⟨3,a,b,0,[(n:Int)],mp2 (fun p q=>Fx.hold (p - q)) x y⟩]∧lsR ms (opS 3 a b 0)=(ms.length:Int):=
 go_two _ (.inr (.inl rfl)) (by omega) (by omega) (fun _ _ _ _=>rfl) (fun _ _ _ _=>rfl) (fun _ _ _ _=>rfl) hl hx hy na nb
theorem go_add {ms:List Nd} {a b:Int} (hl:ms.length < 512) {n:Nat} {x y:List Int} (hx:RwP n x) (hy:RwP n y) (na:RwN ms a n x) (nb:RwN ms b n y):lsE ms (opS 2 a b 0)=0∧lsN ms (opS 2 a b 0)=ms++[⟨2,a,b,0,[(n:Int)],mp2 (fun p q=>Fx.hold (p+q)) x y⟩]∧lsR ms (opS 2 a b 0)=(ms.length:Int):=
 go_two _ (.inl rfl) (by omega) (by omega) (fun _ _ _ _=>rfl) (fun _ _ _ _=>rfl) (fun _ _ _ _=>rfl) hl hx hy na nb
theorem go_mul {ms:List Nd} {a b:Int} (hl:ms.length < 512) {n:Nat} {x y:List Int} (hx:RwP n x) (hy:RwP n y) (na:RwN ms a n x) (nb:RwN ms b n y):lsE ms (opS 4 a b 0)=0∧lsN ms (opS 4 a b 0)=ms++[⟨4,a,b,0,[(n:Int)],mp2 Fx.mulI x y⟩]∧lsR ms (opS 4 a b 0)=(ms.length:Int):=
 go_two _ (.inr (.inr (.inl rfl))) (by omega) (by omega) (fun _ _ _ _=>rfl) (fun _ _ _ _=>rfl) (fun _ _ _ _=>rfl) hl hx hy na nb
/-- A number is added to each. -/
theorem go_add0 {ms:List Nd} {a b:Int} (hl:ms.length < 512) {n:Nat} {x:List Int} {s:Int} (hx:RwP n x) (na:RwN ms a n x) (hb:0≤b∧b < (ms.length:Int)) (eD:(ndN ms b).D = []) (eX:(ndN ms b).X = [s]):lsE ms (opS 2 a b 0)=0∧lsN ms (opS 2 a b 0)=ms++[⟨2,a,b,0,[(n:Int)],x.map fun v=>Fx.hold (v+s)⟩]∧lsR ms (opS 2 a b 0)=(ms.length:Int):=by
 obtain ⟨e1,e2,e3⟩:=do_two (E:=0) (op:=2) (fun p q=>Fx.hold (p+q)) (.inl rfl) (by omega) (by omega) (fun _ _ _ _=>rfl) (fun _ _ _ _=>rfl) (fun _ _ _ _=>rfl) hl na.r hb na.D na.X eD eX (row_each0 hx s)
 exact ⟨e1,e3,e2⟩
theorem go_all {ms:List Nd} {a b:Int} (hl:ms.length < 512) {n:Nat} {x:List Int} (hx:RwP n x) (na:RwN ms a n x):lsE ms (opS 9 a b 0)=0∧lsN ms (opS 9 a b 0)=ms++[⟨9,a,-1,0,[],[Fx.hold (totalI x)]⟩]∧lsR ms (opS 9 a b 0)=(ms.length:Int):=by
 obtain ⟨e1,e2,e3⟩:=do_one (b:=b) (k:=0) (op:=9) (by omega) (by omega) hl na.r na.D na.X rfl (rk_all hx).1 rfl (rk_all hx).2
 exact ⟨e1,e3,e2⟩
theorem go_mean {ms:List Nd} {a b:Int} (hl:ms.length < 512) {n:Nat} {x:List Int} (hx:RwP n x) (na:RwN ms a n x):lsE ms (opS 10 a b 0)=0∧lsN ms (opS 10 a b 0)=ms++[⟨10,a,-1,0,[],[meanI x]⟩]∧lsR ms (opS 10 a b 0)=(ms.length:Int):=by
 obtain ⟨e1,e2,e3⟩:=do_one (b:=b) (k:=0) (op:=10) (by omega) (by omega) hl na.r na.D na.X rfl (rk_mean hx).1 rfl (rk_mean hx).2
 exact ⟨e1,e3,e2⟩
theorem go_bend {ms:List Nd} {a b:Int} (hl:ms.length < 512) {n:Nat} {x:List Int} (hx:RwP n x) (na:RwN ms a n x) {k:Int} (hk:1≤k∧k≤5):lsE ms (opS 11 a b k)=0∧lsN ms (opS 11 a b k)=ms++[⟨11,a,-1,k,[(n:Int)],x.map fun y=>Fx.bendI k y⟩]∧lsR ms (opS 11 a b k)=(ms.length:Int):=by
 obtain ⟨e1,e2,e3⟩:=do_one (b:=b) (k:=k) (op:=11) (by omega) (by omega) hl na.r na.D na.X rfl (rk_bend hx hk).1 (rk_bend hx hk).2.1 (rk_bend hx hk).2.2
 exact ⟨e1,e3,e2⟩
theorem go_leaf {ms:List Nd} (hl:ms.length < 512) {n:Nat} {x:List Int} (hx:RwP n x):lsE ms (lfS x)=0∧lsN ms (lfS x)=ms++[⟨1,-1,-1,0,[(n:Int)],x⟩]∧lsR ms (lfS x)=(ms.length:Int):=by
 obtain ⟨e1,e2,e3⟩:=leaf_ok hl hx.isP
 unfold lfS
 rw [hx.l]
 exact ⟨e1,e3,e2⟩
theorem len_app (ms:List Nd) (nd:Nd):(ms++[nd]).length=ms.length+1:=by simp
end Go.Proofs.YtpdkkcnmgiihcaaGreatDoor.Wd
