/- Tensors: what matm.All, matm.Mean and matm.row hand back. -/
import Derived.Test.YtiampagapgjedaaGreatDoorP10
import Derived.Test.YtiampagapgjedaaGreatDoorP02
import Derived.Test.YtiampagapgjedaaGreatDoorP12
set_option linter.unusedVariables false
set_option linter.unusedSimpArgs false
set_option maxHeartbeats 16000000
set_option maxRecDepth 16000
namespace Go.Proofs.YtiampagapgjedaaGreatDoor.Wd
open Go.RowKit Fx
def matE (d x:List Int):Int:=if isP d x then 0 else 1
def allV (d x:List Int):Int:=if isP d x then hold (totalI x) else 0
def meanV (d x:List Int):Int:=if isP d x then meanI x else 0
theorem total_in {x:List Int} (hx:RI x) (h:x.length≤4096):InW (totalI x):=by
 have:=total_rng hx
 unfold InW
 omega
theorem cut_range (x:List Int) (a m:Nat) (h:a+m≤x.length):(x.drop a).take m=(List.range m).map fun j=>x.getD (a+j) 0:=by
 refine List.ext_getElem (by simp;omega) fun i h1 h2=>?_
 simp at h1 h2
 simp only [List.getElem_take,List.getElem_drop,List.getElem_map,List.getElem_range]
 rw [getD_lt x (a+i) 0 (by omega)]
theorem row_nums {W:World} {p2:Option Addr} {n2 c2:Nat} {x:List Int} (D0 D1 i:Nat) (hx:x.length=D0*D1) (hi:i < D0) (hnc:n2≤c2) (h2:Nums .i64 W (.slice p2 n2 c2) x):Nums .i64 W (sliced p2 (i*D1) ((i+1)*D1) c2 1) ((List.range D1).map fun j=>x.getD (i*D1+j) 0):=by
 obtain ⟨_,_,_,e4,HX⟩:=h2.lst
 cases e4
 have k1:(i+1)*D1≤D0*D1:=Nat.mul_le_mul_right _ hi
 have k2:i*D1+D1=(i+1)*D1:=by rw [Nat.add_mul,Nat.one_mul]
 have h:=cut_nums (k:=.i64) (W:=W) (p:=p2) (i:=i*D1) (j:=(i+1)*D1) (by omega) (by rw [← HX.out.1,hx];exact k1) HX.out.1 hnc h2
 rw [show (i+1)*D1 - i*D1=D1 by omega,cut_range x (i*D1) D1 (by rw [hx];omega)] at h
 exact h
theorem row_is (p2:Option Addr) (i D1 c2:Nat):∃ q,sliced p2 (i*D1) ((i+1)*D1) c2 1 = .slice q D1 (c2 - i*D1):=by
 obtain ⟨q,h⟩:=sliced_is p2 (i*D1) ((i+1)*D1) c2
 rw [show (i+1)*D1 - i*D1=D1 by rw [Nat.add_mul,Nat.one_mul];omega] at h
 exact ⟨q,h⟩
end Go.Proofs.YtiampagapgjedaaGreatDoor.Wd
