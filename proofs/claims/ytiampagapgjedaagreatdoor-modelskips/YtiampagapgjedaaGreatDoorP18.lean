/- What conv's function values do: all that meet is added where it goes. · What conv's gathered tells, of Row's, BackIn's and BackKernel's sums; and what the document says of their answers. -/
import Derived.Test.YtiampagapgjedaaGreatDoorP17
set_option linter.unusedVariables false
set_option linter.unusedSimpArgs false
set_option maxHeartbeats 16000000
set_option maxRecDepth 16000
namespace Go.Proofs.YtiampagapgjedaaGreatDoor.Wd
open Go.RowKit Fx
/-- What such a function value reads: the sums' slice in gb, two tensors' numbers by way of ga and gk; the sums lie in b. -/
def Mt (W:World) (b gb ga gk N:Nat) (pa:Option Addr) (na ca:Nat) (pk:Option Addr) (nk ck:Nat) (x y:List Int):Prop:=
 W.cell? ⟨gb,0,none⟩=some (.slice (some ⟨b,0,none⟩) N N)∧W.cell? ⟨ga,1,none⟩=some (.slice pa na ca)∧W.cell? ⟨gk,1,none⟩=some (.slice pk nk ck)∧Nums .i64 W (.slice pa na ca) x∧Nums .i64 W (.slice pk nk ck) y∧(gb≠b∧ga≠b∧gk≠b)∧Off b (.slice pa na ca)∧Off b (.slice pk nk ck)
theorem Mt.up {W W':World} {b gb ga gk N:Nat} {pa:Option Addr} {na ca:Nat} {pk:Option Addr} {nk ck:Nat} {x y:List Int} (h:Mt W b gb ga gk N pa na ca pk nk ck x y) (hB:Below W.heap.size W W'):Mt W' b gb ga gk N pa na ca pk nk ck x y:=
 ⟨cell_low h.1 hB,cell_low h.2.1 hB,cell_low h.2.2.1 hB,h.2.2.2.1.up hB,h.2.2.2.2.1.up hB,h.2.2.2.2.2⟩
theorem Mt.stay {W W':World} {b gb ga gk N:Nat} {pa:Option Addr} {na ca:Nat} {pk:Option Addr} {nk ck:Nat} {x y:List Int} (h:Mt W b gb ga gk N pa na ca pk nk ck x y) (hS:Stay b W W'):Mt W' b gb ga gk N pa na ca pk nk ck x y:=
 ⟨hS.cell h.1 h.2.2.2.2.2.1.1,hS.cell h.2.1 h.2.2.2.2.2.1.2.1,hS.cell h.2.2.1 h.2.2.2.2.2.1.2.2,h.2.2.2.1.stay hS h.2.2.2.2.2.2.1,h.2.2.2.2.1.stay hS h.2.2.2.2.2.2.2,h.2.2.2.2.2⟩
/-- Sums that have met q. -/
def Sms (W:World) (b N q:Nat) (f:Nat→Int):Prop:=∀ i,i < N→SumAt W b (i*4) q (f i)
theorem Sms.up {W W':World} {b N q:Nat} {f:Nat→Int} (h:Sms W b N q f) (hB:Below W.heap.size W W'):Sms W' b N q f:=fun i hi=>(h i hi).up hB
theorem Sms.add {W W':World} {b N q j:Nat} {f f':Nat→Int} {Z:Int} (h:Sms W b N q f) (hn:Near b (j*4) W W') (hs:SumAt W' b (j*4) (q+1) (f j+Z)) (hf:∀ i,i < N→f' i=if j=i then f i+Z else f i):Sms W' b N (q+1) f':=fun i hi=>by
 rw [hf i hi]
 by_cases e:j=i
 ·subst e
  rw [if_pos rfl]
  exact hs
 ·rw [if_neg e]
  exact ((h i hi).near hn (by omega)).more (by omega)
/-- Row: what the document says. -/
abbrev rwA (d x d' y:List Int) (st:Int):Prop:=isP d x∧isP d' y∧1≤st∧st≤64
abbrev rwS (d d':List Int):Prop:=d.length=2∧d'.length=3∧d.getD 0 0=d'.getD 1 0∧d'.getD 2 0≤d.getD 1 0
def rwO (d d':List Int) (st:Int):List Int:=[d'.getD 0 0,((stopsN (d.getD 1 0).toNat (d'.getD 2 0).toNat st.toNat:Nat):Int)]
def rwE (d x d' y:List Int) (st:Int):Int:=if rwA d x d' y st then if rwS d d' then gatE (rwO d d' st) else 4 else 1
def rwD (d x d' y:List Int) (st:Int):List Int:=if rwA d x d' y st∧rwS d d' then newD (rwO d d' st) else []
def rwV (d x d' y:List Int) (st:Int):List Int:=if rwA d x d' y st∧rwS d d' then if goodN (ntl (rwO d d' st)) then convV (d.getD 0 0).toNat (d.getD 1 0).toNat (d'.getD 2 0).toNat (d'.getD 0 0).toNat (stopsN (d.getD 1 0).toNat (d'.getD 2 0).toNat st.toNat) st.toNat x y else [] else []
end Go.Proofs.YtiampagapgjedaaGreatDoor.Wd
