/- LossTurns' numbers: what comes out and what is wanted, changed for one another. -/
import Derived.Test.YtpdkkcnmgiihcaaGreatDoorL18
set_option linter.unusedVariables false
set_option linter.unusedSimpArgs false
set_option maxHeartbeats 16000000
set_option maxRecDepth 16000
namespace Go.Proofs.YtpdkkcnmgiihcaaGreatDoor.Wd
open Go.RowKit Fx
def R61 (x:List Int):Prop:=∀ i,-2305843009213693952≤x.getD i 0∧x.getD i 0≤2305843009213693952
theorem sq_neg (a:Int):Fx.mulI (-a) (-a)=Fx.mulI a a:=by
 unfold Fx.mulI Fx.differ
 rw [Int.natAbs_neg]
 simp
theorem sq_pos (a:Int):0≤Fx.mulI a a:=by
 unfold Fx.mulI Fx.differ
 simp only [bne_self_eq_false,Fx.sg]
 unfold Fx.hold
 simp only [Bool.false_eq_true,if_false]
 split
 ·omega
 ·split <;> omega
theorem dif_at {n:Nat} {x y:List Int} (hx:RwP n x) (h1:R61 x) (h2:R61 y) (i:Nat) (hi:i < n):(dif x y).getD i 0=x.getD i 0 - y.getD i 0∧-4611686018427387904≤x.getD i 0 - y.getD i 0∧x.getD i 0 - y.getD i 0≤4611686018427387904:=by
 have a:=h1 i
 have b:=h2 i
 unfold dif
 rw [mp2_at _ _ _ _ (by rw [hx.l];exact hi),Fx.hold_in (by omega) (by omega)]
 omega
theorem turn_sq {n:Nat} {x y:List Int} (hx:RwP n x) (hy:RwP n y) (h1:R61 x) (h2:R61 y):sqV y x=sqV x y:=by
 have dx:(dif x y).length=n:=(hx.map2 _).l
 have dy:(dif y x).length=n:=(hy.map2 _).l
 unfold sqV
 conv=>lhs;unfold mp2
 conv=>rhs;unfold mp2
 rw [dx,dy]
 refine List.map_congr_left fun i hi=>?_
 have hi':=List.mem_range.1 hi
 rw [(dif_at hx h1 h2 i hi').1,(dif_at hy h2 h1 i hi').1,← sq_neg,show -(y.getD i 0 - x.getD i 0)=x.getD i 0 - y.getD i 0 by omega]
theorem turn_sz {n:Nat} {x y:List Int} (hx:RwP n x) (hy:RwP n y) (h1:R61 x) (h2:R61 y):szV y x=szV x y:=by
 have dx:(dif x y).length=n:=(hx.map2 _).l
 have dy:(dif y x).length=n:=(hy.map2 _).l
 unfold szV
 refine List.ext_getElem (by simp [dx,dy]) fun i h3 h4=>?_
 have hi:i < n:=by simpa [dy] using h3
 simp only [List.getElem_map]
 have e1:(dif x y)[i]'(by rw [dx];exact hi)=x.getD i 0 - y.getD i 0:=by
  have:=(dif_at hx h1 h2 i hi).1
  rwa [List.getD_eq_getElem?_getD,List.getElem?_eq_getElem (by rw [dx];exact hi),Option.getD_some] at this
 have e2:(dif y x)[i]'(by rw [dy];exact hi)=y.getD i 0 - x.getD i 0:=by
  have:=(dif_at hy h2 h1 i hi).1
  rwa [List.getD_eq_getElem?_getD,List.getElem?_eq_getElem (by rw [dy];exact hi),Option.getD_some] at this
 have b:=(dif_at hx h1 h2 i hi).2
 rw [e1,e2,Fx.bend_4,Fx.bend_4]
 generalize x.getD i 0=p at *
 generalize y.getD i 0=q at *
 rw [Fx.hold_in (by omega) (by omega),Fx.hold_in (by omega) (by omega)]
 split <;> split <;> omega
theorem sum_pos {f:Nat→Int}:∀ n,(∀ i,i < n→0≤f i)→0≤sumI f n
 | 0,_=>Int.le_refl _
 | n+1,h=>by
  have:=sum_pos n fun i hi=>h i (by omega)
  have:=h n (by omega)
  show 0≤sumI f n+f n
  omega
theorem rq_pos {x d:Int} (hx:0≤x) (hd:0 < d):0≤rqI x d:=by
 obtain ⟨a,rfl⟩:∃ a:Nat,x=a:=⟨x.toNat,by omega⟩
 obtain ⟨b,rfl⟩:∃ b:Nat,d=b:=⟨d.toNat,by omega⟩
 rw [rqI_nat]
 omega
theorem hold_pos {x:Int} (h:0≤x):0≤Fx.hold x:=by
 unfold Fx.hold
 split
 ·omega
 ·split <;> omega
theorem mean_pos {n:Nat} {x:List Int} (hx:RwP n x) (h:∀ y,y∈x→0≤y):0≤meanI x:=by
 unfold meanI totalI
 have:=hx.h1
 refine hold_pos (rq_pos (sum_pos _ fun i hi=>?_) (by rw [hx.l];omega))
 show 0≤x.getD i 0
 rw [List.getD_eq_getElem?_getD,List.getElem?_eq_getElem hi]
 exact h _ (List.getElem_mem _)
theorem sq_mean {n:Nat} {x y:List Int} (hx:RwP n x):0≤meanI (sqV x y):=mean_pos ((hx.map2 _).map2 _) fun v hv=>by
 unfold sqV at hv
 conv at hv=>unfold mp2
 obtain ⟨i,_,rfl⟩:=List.mem_map.1 hv
 exact sq_pos _
theorem sz_mean {n:Nat} {x y:List Int} (hx:RwP n x):0≤meanI (szV x y):=mean_pos ((hx.map2 _).map _) fun v hv=>by
 obtain ⟨u,_,rfl⟩:=List.mem_map.1 hv
 rw [Fx.bend_4]
 split
 ·exact hold_pos (by omega)
 ·omega
end Go.Proofs.YtpdkkcnmgiihcaaGreatDoor.Wd
