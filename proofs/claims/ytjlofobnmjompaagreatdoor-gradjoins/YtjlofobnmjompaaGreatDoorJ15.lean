/- Sums of products gathered into a tensor: what conv's gathered does with whatever fills them. · What conv's function values do: all that meet is added where it goes. · What conv's gathered tells, of Row's, BackIn's and BackKernel's sums; and what the document says of their answers. -/
import Derived.Test.YtjlofobnmjompaaGreatDoorJ14
import Derived.Test.YtjlofobnmjompaaGreatDoorJ12
import Derived.Test.YtjlofobnmjompaaGreatDoorJ02
set_option linter.unusedVariables false
set_option linter.unusedSimpArgs false
set_option maxHeartbeats 16000000
set_option maxRecDepth 16000
namespace Go.Proofs.YtjlofobnmjompaaGreatDoor.Wd
open Go.RowKit Fx
theorem LieA.stay {W W':World} {g b o:Nat} {x:Int} (h:LieA W b o x) (hs:Stay g W W') (hg:b≠g):LieA W' b o x:=
 ⟨Nat.lt_of_lt_of_le h.1 hs.size,hs.cell h.2.1 hg,hs.cell h.2.2.1 hg,by rw [hs.frozen h.1 hg];exact h.2.2.2.1,by rw [hs.frozen h.1 hg];exact h.2.2.2.2⟩
theorem SumAt.stay {W W':World} {g b o m:Nat} {T:Int} (h:SumAt W b o m T) (hs:Stay g W W') (hg:b≠g):SumAt W' b o m T:=by
 obtain ⟨A,B,e,h1,h2,h3,h4,h5,h6⟩:=h
 exact ⟨A,B,e,h1,h2,h3,h4,h5.stay hs hg,h6.stay hs hg⟩
/-- The tensor of the sums. -/
def gatE (d:List Int):Int:=if goodN (ntl d) then 0 else 2
/-- What such a function value reads: the sums' slice in gb, two tensors' numbers by way of ga and gk; the sums lie in b. -/
def Mt (W:World) (b gb ga gk N:Nat) (pa:Option Addr) (na ca:Nat) (pk:Option Addr) (nk ck:Nat) (x y:List Int):Prop:=
 W.cell? ⟨gb,0,none⟩=some (.slice (some ⟨b,0,none⟩) N N)∧W.cell? ⟨ga,1,none⟩=some (.slice pa na ca)∧W.cell? ⟨gk,1,none⟩=some (.slice pk nk ck)∧Nums .i64 W (.slice pa na ca) x∧Nums .i64 W (.slice pk nk ck) y∧(gb≠b∧ga≠b∧gk≠b)∧Off b (.slice pa na ca)∧Off b (.slice pk nk ck)
theorem Mt.up {W W':World} {b gb ga gk N:Nat} {pa:Option Addr} {na ca:Nat} {pk:Option Addr} {nk ck:Nat} {x y:List Int} (h:Mt W b gb ga gk N pa na ca pk nk ck x y) (hB:Below W.heap.size W W'):Mt W' b gb ga gk N pa na ca pk nk ck x y:=
 ⟨cell_low h.1 hB,cell_low h.2.1 hB,cell_low h.2.2.1 hB,h.2.2.2.1.up hB,h.2.2.2.2.1.up hB,h.2.2.2.2.2⟩
theorem Mt.stay {W W':World} {b gb ga gk N:Nat} {pa:Option Addr} {na ca:Nat} {pk:Option Addr} {nk ck:Nat} {x y:List Int} (h:Mt W b gb ga gk N pa na ca pk nk ck x y) (hS:Stay b W W'):Mt W' b gb ga gk N pa na ca pk nk ck x y:=
 ⟨hS.cell h.1 h.2.2.2.2.2.1.1,hS.cell h.2.1 h.2.2.2.2.2.1.2.1,hS.cell h.2.2.1 h.2.2.2.2.2.1.2.2,h.2.2.2.1.stay hS h.2.2.2.2.2.2.1,h.2.2.2.2.1.stay hS h.2.2.2.2.2.2.2,h.2.2.2.2.2⟩
/-- Sums that have met q. -/
def Sms (W:World) (b N q:Nat) (f:Nat→Int):Prop:=∀ i,i < N→SumAt W b (i*4) q (f i)
theorem Sms.up {W W':World} {b N q:Nat} {f:Nat→Int} (h:Sms W b N q f) (hB:Below W.heap.size W W'):Sms W' b N q f:=fun i hi=>(h i hi).up hB
/-- Row: what the document says. -/
abbrev rwA (d x d' y:List Int) (st:Int):Prop:=isP d x∧isP d' y∧1≤st∧st≤64
abbrev rwS (d d':List Int):Prop:=d.length=2∧d'.length=3∧d.getD 0 0=d'.getD 1 0∧d'.getD 2 0≤d.getD 1 0
def rwO (d d':List Int) (st:Int):List Int:=[d'.getD 0 0,((stopsN (d.getD 1 0).toNat (d'.getD 2 0).toNat st.toNat:Nat):Int)]
def rwE (d x d' y:List Int) (st:Int):Int:=if rwA d x d' y st then if rwS d d' then gatE (rwO d d' st) else 4 else 1
def rwD (d x d' y:List Int) (st:Int):List Int:=if rwA d x d' y st∧rwS d d' then newD (rwO d d' st) else []
def rwV (d x d' y:List Int) (st:Int):List Int:=if rwA d x d' y st∧rwS d d' then if goodN (ntl (rwO d d' st)) then convV (d.getD 0 0).toNat (d.getD 1 0).toNat (d'.getD 2 0).toNat (d'.getD 0 0).toNat (stopsN (d.getD 1 0).toNat (d'.getD 2 0).toNat st.toNat) st.toNat x y else [] else []
/-- BackIn: what the document says. -/
abbrev biA (d x d' y:List Int) (st lg:Int):Prop:=isP d x∧isP d' y∧(1≤st∧st≤64)∧1≤lg∧lg≤4096
abbrev biS (d d':List Int) (st lg:Int):Prop:=d.length=2∧d'.length=3∧d.getD 0 0=d'.getD 0 0∧d'.getD 2 0≤lg∧d.getD 1 0=((stopsN lg.toNat (d'.getD 2 0).toNat st.toNat:Nat):Int)
def biO (d':List Int) (lg:Int):List Int:=[d'.getD 1 0,lg]
def biE (d x d' y:List Int) (st lg:Int):Int:=if biA d x d' y st lg then if biS d d' st lg then gatE (biO d' lg) else 4 else 1
def biD (d x d' y:List Int) (st lg:Int):List Int:=if biA d x d' y st lg∧biS d d' st lg then newD (biO d' lg) else []
def biV (d x d' y:List Int) (st lg:Int):List Int:=if biA d x d' y st lg∧biS d d' st lg then if goodN (ntl (biO d' lg)) then gradV (d.getD 0 0).toNat (d'.getD 1 0).toNat (d.getD 1 0).toNat (d'.getD 2 0).toNat st.toNat lg.toNat x y else [] else []
theorem bi_fine {x y:List Int} {R L O wd st S:Nat} (h1:biA [(O:Int),(S:Int)] x [(O:Int),(R:Int),(wd:Int)] y st L) (h:wd≤L) (hS:stopsN L wd st=S):biE [(O:Int),(S:Int)] x [(O:Int),(R:Int),(wd:Int)] y st L=gatE [(R:Int),(L:Int)]∧biD [(O:Int),(S:Int)] x [(O:Int),(R:Int),(wd:Int)] y st L=newD [(R:Int),(L:Int)]∧biV [(O:Int),(S:Int)] x [(O:Int),(R:Int),(wd:Int)] y st L=if goodN (ntl [(R:Int),(L:Int)]) then gradV O R S wd st L x y else []:=by
 have hs:biS [(O:Int),(S:Int)] [(O:Int),(R:Int),(wd:Int)] st L:=⟨rfl,rfl,rfl,by simpa using h,by rw [← hS];rfl⟩
 refine ⟨?_,?_,?_⟩
 ·unfold biE
  rw [if_pos h1,if_pos hs]
  rfl
 ·unfold biD
  rw [if_pos ⟨h1,hs⟩]
  rfl
 ·unfold biV
  rw [if_pos ⟨h1,hs⟩]
  rfl
/-- BackKernel: what the document says. -/
abbrev bkS (d d':List Int) (st lg:Int):Prop:=d.length=2∧d'.length=2∧lg≤d'.getD 1 0∧d.getD 1 0=((stopsN (d'.getD 1 0).toNat lg.toNat st.toNat:Nat):Int)
def bkO (d d':List Int) (lg:Int):List Int:=[d.getD 0 0,d'.getD 0 0,lg]
def bkE (d x d' y:List Int) (st lg:Int):Int:=if biA d x d' y st lg then if bkS d d' st lg then gatE (bkO d d' lg) else 4 else 1
def bkD (d x d' y:List Int) (st lg:Int):List Int:=if biA d x d' y st lg∧bkS d d' st lg then newD (bkO d d' lg) else []
def bkV (d x d' y:List Int) (st lg:Int):List Int:=if biA d x d' y st lg∧bkS d d' st lg then if goodN (ntl (bkO d d' lg)) then kerV (d.getD 0 0).toNat (d'.getD 0 0).toNat (d.getD 1 0).toNat (d'.getD 1 0).toNat lg.toNat st.toNat x y else [] else []
theorem bk_fine {x y:List Int} {R L O wd st S:Nat} (h1:biA [(O:Int),(S:Int)] x [(R:Int),(L:Int)] y st wd) (h:wd≤L) (hS:stopsN L wd st=S):bkE [(O:Int),(S:Int)] x [(R:Int),(L:Int)] y st wd=gatE [(O:Int),(R:Int),(wd:Int)]∧bkD [(O:Int),(S:Int)] x [(R:Int),(L:Int)] y st wd=newD [(O:Int),(R:Int),(wd:Int)]∧bkV [(O:Int),(S:Int)] x [(R:Int),(L:Int)] y st wd=if goodN (ntl [(O:Int),(R:Int),(wd:Int)]) then kerV O R S L wd st x y else []:=by
 have hs:bkS [(O:Int),(S:Int)] [(R:Int),(L:Int)] st wd:=⟨rfl,rfl,by simpa using h,by rw [← hS];rfl⟩
 refine ⟨?_,?_,?_⟩
 ·unfold bkE
  rw [if_pos h1,if_pos hs]
  rfl
 ·unfold bkD
  rw [if_pos ⟨h1,hs⟩]
  rfl
 ·unfold bkV
  rw [if_pos ⟨h1,hs⟩]
  rfl
end Go.Proofs.YtjlofobnmjompaaGreatDoor.Wd
