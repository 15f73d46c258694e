/- What the functions of package wide hand  -/
import Derived.Test.YtihjnbbhpojnpaaGreatDoorQ08
set_option linter.unusedVariables false
set_option linter.unusedSimpArgs false
set_option maxHeartbeats 16000000
set_option maxRecDepth 16000
namespace Go.Proofs.YtihjnbbhpojnpaaGreatDoor.Wd
open Go.RowKit Fx
attribute [local go_sem] fld_hi fld_lo
end Go.Proofs.YtihjnbbhpojnpaaGreatDoor.Wd
namespace Go.Proofs.YtihjnbbhpojnpaaGreatDoor.Wd
open Go.RowKit Fx
attribute [local go_sem] fld_hi fld_lo
end Go.Proofs.YtihjnbbhpojnpaaGreatDoor.Wd
namespace Go.Proofs.YtihjnbbhpojnpaaGreatDoor.Wd
open Go.RowKit Fx
def matE (d x:List Int):Int:=if isP d x then 0 else 1
def allV (d x:List Int):Int:=if isP d x then hold (totalI x) else 0
def meanV (d x:List Int):Int:=if isP d x then meanI x else 0
theorem total_in {x:List Int} (hx:RI x) (h:x.length≤4096):InW (totalI x):=by
 have:=total_rng hx
 unfold InW
 omega
theorem cut_range (x:List Int) (a m:Nat) (h:a+m≤x.length):(x.drop a).take m=(List.range m).map fun j=>x.getD (a+j) 0:=by
 refine List.ext_getElem (by simp;omega) fun i h1 h2=>?_
 simp at h1 h2
 simp only [List.getElem_take,List.getElem_drop,List.getElem_map,List.getElem_range]
 rw [getD_lt x (a+i) 0 (by omega)]
theorem row_nums {W:World} {p2:Option Addr} {n2 c2:Nat} {x:List Int} (D0 D1 i:Nat) (hx:x.length=D0*D1) (hi:i < D0) (hnc:n2≤c2) (h2:Nums .i64 W (.slice p2 n2 c2) x):Nums .i64 W (sliced p2 (i*D1) ((i+1)*D1) c2 1) ((List.range D1).map fun j=>x.getD (i*D1+j) 0):=by
 obtain ⟨_,_,_,e4,HX⟩:=h2.lst
 cases e4
 have k1:(i+1)*D1≤D0*D1:=Nat.mul_le_mul_right _ hi
 have k2:i*D1+D1=(i+1)*D1:=by rw [Nat.add_mul,Nat.one_mul]
 have h:=cut_nums (k:=.i64) (W:=W) (p:=p2) (i:=i*D1) (j:=(i+1)*D1) (by omega) (by rw [← HX.out.1,hx];exact k1) HX.out.1 hnc h2
 rw [show (i+1)*D1 - i*D1=D1 by omega,cut_range x (i*D1) D1 (by rw [hx];omega)] at h
 exact h
theorem row_is (p2:Option Addr) (i D1 c2:Nat):∃ q,sliced p2 (i*D1) ((i+1)*D1) c2 1 = .slice q D1 (c2 - i*D1):=by
 obtain ⟨q,h⟩:=sliced_is p2 (i*D1) ((i+1)*D1) c2
 rw [show (i+1)*D1 - i*D1=D1 by rw [Nat.add_mul,Nat.one_mul];omega] at h
 exact ⟨q,h⟩
end Go.Proofs.YtihjnbbhpojnpaaGreatDoor.Wd
namespace Go.Proofs.YtihjnbbhpojnpaaGreatDoor.Wd
open Go.RowKit
theorem make_run {P:Program} {t e:TypeId} {k:IntKind} {b:Nat} (T:NumT P t e k b) (hb8:b≤8) (n:Nat) (hn:n≤1073741824) (kl kc:IntKind) (W:World):(Instr.makeSlice t (.int kl (n:Int)) (.int kc (n:Int))).run P W = .ok (.slice (some ⟨W.heap.size,0,none⟩) n n) (W.alloc (.cells (vals k (List.replicate n 0)).toArray e)):=by
 obtain ⟨i0,hi,hz0,hz1,hz2⟩:=info_of T
 have hm:b*n≤8*1073741824:=Nat.mul_le_mul hb8 hn
 have hb':(i0.bytes:Int)*(n:Int)≤281474976710656:=by
  have h:((i0.bytes*n:Nat):Int)≤281474976710656:=by rw [hz2];omega
  rwa [Int.natCast_mul] at h
 have hr:=run_make (P:=P) W t e i0 (.int k 0) T.ht hi hz0 kl kc n n (by omega) (Int.le_refl _) hb' (by omega)
 simp only [Int.toNat_natCast] at hr
 rw [hr]
 have e1:(madeCells (Value.int k 0).cells (n*i0.size))=(vals k (List.replicate n 0)).toArray:=by
  rw [hz1,Nat.mul_one]
  apply Array.toList_inj.1
  have:=toList_madeCells_one (Value.int k 0) n
  rw [show (Value.int k 0).cells=#[Value.int k 0] from rfl,this]
  unfold vals
  rw [List.map_replicate]
 rw [e1]
theorem two_made {k:IntKind} {e:TypeId} {w3 W4:World} {n:Nat} (hn:n≤1073741824) (h:((w3.alloc (.cells (vals k (List.replicate n 0)).toArray e)).alloc (.cells (vals k (List.replicate n 0)).toArray e)).drew=W4):
  Below w3.heap.size w3 W4∧OwnK k e W4 w3.heap.size (.slice (some ⟨w3.heap.size,0,none⟩) n n) (List.replicate n 0)∧OwnK k e W4 w3.heap.size (.slice (some ⟨w3.heap.size+1,0,none⟩) n n) (List.replicate n 0):=by
 have B1:=up_alloc w3 (.cells (vals k (List.replicate n 0)).toArray e)
 have B2:=up_alloc (w3.alloc (.cells (vals k (List.replicate n 0)).toArray e)) (.cells (vals k (List.replicate n 0)).toArray e)
 have B3:Below ((w3.alloc (.cells (vals k (List.replicate n 0)).toArray e)).alloc (.cells (vals k (List.replicate n 0)).toArray e)).heap.size ((w3.alloc (.cells (vals k (List.replicate n 0)).toArray e)).alloc (.cells (vals k (List.replicate n 0)).toArray e)) W4:=by
  rw [← h]
  exact ⟨rfl,rfl,rfl,Nat.le_refl _,fun _ _=>rfl⟩
 have O1:=own_lit (k:=k) (e:=e) w3 (List.replicate n 0) n (by simp) hn
 have O2:=own_lit (k:=k) (e:=e) (w3.alloc (.cells (vals k (List.replicate n 0)).toArray e)) (List.replicate n 0) n (by simp) hn
 have es:(w3.alloc (.cells (vals k (List.replicate n 0)).toArray e)).heap.size=w3.heap.size+1:=Array.size_push _
 refine ⟨bstep (bstep B1 B2) B3,(O1.up B2).up B3,?_⟩
 have:=(O2.up B3).low (show w3.heap.size≤_ by rw [es];omega)
 rw [es] at this
 exact this
end Go.Proofs.YtihjnbbhpojnpaaGreatDoor.Wd
