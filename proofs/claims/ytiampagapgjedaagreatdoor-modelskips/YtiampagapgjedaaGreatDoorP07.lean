/- Tensors: what tens.Scale and tens.Reshape hand back. · Plain arithmetic of numbers of 128 bits with a sign: two words stand for a number. Nothing of the program is named here. -/
import Derived.Test.YtiampagapgjedaaGreatDoorP06
import Derived.Test.YtiampagapgjedaaGreatDoorP02
import Derived.Lib.TrailingZeros
set_option linter.unusedVariables false
set_option linter.unusedSimpArgs false
set_option maxHeartbeats 16000000
set_option maxRecDepth 16000
namespace Go.Proofs.YtiampagapgjedaaGreatDoor.Wd
open Go.RowKit
def scaleE (d x:List Int):Int:=if isP d x then 0 else 1
def scaleD (d x:List Int):List Int:=if isP d x then d else []
def scaleV (d x:List Int) (k:Int):List Int:=if isP d x then x.map fun y=>Fx.mulI y k else []
def shpE (d x d':List Int):Int:=if isP d x∧goodN (ntl d') then if prodN (ntl d')=x.length then 0 else 4 else 1
def shpD (d x d':List Int):List Int:=if (isP d x∧goodN (ntl d'))∧prodN (ntl d')=x.length then d' else []
def shpV (d x d':List Int):List Int:=if (isP d x∧goodN (ntl d'))∧prodN (ntl d')=x.length then x else []
end Go.Proofs.YtiampagapgjedaaGreatDoor.Wd
namespace Go.Proofs.YtiampagapgjedaaGreatDoor.Wd
open Go.RowKit Fx
/-- Two words that stand for a number. -/
def wd (v:Int):Value:=.agg #[.int .i64 (v / 18446744073709551616),.int .u64 (v % 18446744073709551616)]
def InW (v:Int):Prop:=-170141183460469231731687303715884105728≤v∧v < 170141183460469231731687303715884105728
def wr (v:Int):Int:=(v+170141183460469231731687303715884105728) % 340282366920938463463374607431768211456 - 170141183460469231731687303715884105728
theorem wr_rng (v:Int):InW (wr v):=by unfold InW wr;omega
theorem wr_in {v:Int} (h:InW v):wr v=v:=by unfold InW at h;unfold wr;omega
theorem InR.w {a:Int} (h:InR a):InW a:=by unfold InR at h;unfold InW;omega
theorem wd_eq {h l v:Int} (e1:h=v / 18446744073709551616) (e2:l=v % 18446744073709551616):Value.agg #[.int .i64 h,.int .u64 l]=wd v:=by
 subst e1 e2;rfl
/-- A quotient, rounded: to the nearest, of two that are as near to the even one; on both sides of 0. -/
def rqI (x d:Int):Int:=if d < 2*(x % d)∨(2*(x % d)=d∧x / d % 2=1) then x / d+1 else x / d
theorem dd (x:Int) {p q:Int} (hp:0 < p):x / p / q=x / (p*q):=by
 rw [Int.ediv_ediv,if_neg (fun c=>by omega),Int.sub_zero]
end Go.Proofs.YtiampagapgjedaaGreatDoor.Wd
