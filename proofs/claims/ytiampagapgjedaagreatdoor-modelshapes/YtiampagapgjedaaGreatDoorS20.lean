/- Bent lines and their slopes, as numbers: they rise, they stay within bounds, bent again they stay; between two points of one piece a line rises by its slope. Nothing of the program is named here. · The lines of act: what each makes of a number and how steep it is there; lineOf, Of and Slope hand these back. · act.All: what it hands back. · What a tape reckons, as the document's table has it: each Op's error, sides, numbers; what comes out is a tensor; numbers too far off are as any that is none. -/
import Derived.Test.YtiampagapgjedaaGreatDoorS02
import Derived.Test.YtiampagapgjedaaGreatDoorS11
import Derived.Test.YtiampagapgjedaaGreatDoorS00
import Derived.Laws.EntriesVeiled
import Derived.Test.YtiampagapgjedaaGreatDoorS15
import Derived.Test.YtiampagapgjedaaGreatDoorS07
import Derived.Test.YtiampagapgjedaaGreatDoorS13
import Derived.Test.YtiampagapgjedaaGreatDoorS16
import Derived.Test.YtiampagapgjedaaGreatDoorS17
import Derived.Test.YtiampagapgjedaaGreatDoorS18
import Derived.Test.YtiampagapgjedaaGreatDoorS19
set_option linter.unusedVariables false
set_option linter.unusedSimpArgs false
set_option maxHeartbeats 16000000
set_option maxRecDepth 16000
namespace Go.Proofs.YtiampagapgjedaaGreatDoor.Fx
open Go.RowKit
/-- A number by 8, by 2: rounded to the even one half way. -/
def by8 (x:Int):Int:=sg (decide (x < 0)) (rq x.natAbs 8)
def by2 (x:Int):Int:=sg (decide (x < 0)) (rq x.natAbs 2)
theorem rq8_rng (n:Nat):rq n 8≤n:=by
 unfold rq
 split <;> omega
theorem by8_rng {x:Int} (h:InR x):InR (by8 x):=by
 unfold InR at h ⊢
 have:=rq8_rng x.natAbs
 unfold by8 sg
 split
 ·rename_i hs
  have:=of_decide_eq_true hs
  omega
 ·rename_i hs
  have:¬ x < 0:=fun c=>hs (decide_eq_true c)
  omega
/-- The lines, by kind; their slopes. -/
def bendI (k x:Int):Int:=
 if k=1 then (if x < 0 then 0 else x)
 else if k=2 then (if 0 < x then x else by8 x)
 else if k=3 then (if 4294967296 < x then 4294967296 else if x < -4294967296 then -4294967296 else x)
 else if k=4 then (if x < 0 then hold (-x) else x)
 else (if hold (by2 x+2147483648) < 0 then 0 else if 4294967296 < hold (by2 x+2147483648) then 4294967296 else hold (by2 x+2147483648))
theorem bend_rng {k x:Int} (h:InR x):InR (bendI k x):=by
 have h8:=by8_rng h
 have hh:=hold_rng (-x)
 unfold InR at *
 unfold bendI
 repeat' split
 all_goals omega
end Go.Proofs.YtiampagapgjedaaGreatDoor.Fx
namespace Go.Proofs.YtiampagapgjedaaGreatDoor.Wd
open Go.RowKit Fx
def bentE (k:Int) (d x:List Int):Int:=if (1≤k∧k≤5)∧isP d x then 0 else 1
def bentD (k:Int) (d x:List Int):List Int:=if (1≤k∧k≤5)∧isP d x then d else []
def bentV (k:Int) (d x:List Int):List Int:=if (1≤k∧k≤5)∧isP d x then x.map fun y=>Fx.bendI k y else []
abbrev twoP (op:Int):Prop:=op=2∨op=3∨op=4∨op=6∨op=12
abbrev byP (op:Int):Prop:=op=5∨op=8∨op=11∨op=12∨op=13
/-- The table. -/
def rkE (op:Int) (D X D' X':List Int) (k:Int):Int:=
 if op=2∨op=3∨op=4 then eachE D X D' X' else if op=5 then scaleE D X else if op=6 then mE D X D' X' else if op=7 then flE D X else if op=8 then smE D X k
 else if op=9∨op=10 then matE D X else if op=11 then bentE k D X else if op=12 then rwE D X D' X' k else if op=13 then plE D X k else shpE D X [(X.length:Int)]
def rkD (op:Int) (D X D' X':List Int) (k:Int):List Int:=
 if op=2∨op=3∨op=4 then eachD D X D' X' else if op=5 then scaleD D X else if op=6 then mD D X D' X' else if op=7 then flD D X else if op=8 then smD D X k
 else if op=9∨op=10 then [] else if op=11 then bentD k D X else if op=12 then rwD D X D' X' k else if op=13 then plD D X k else shpD D X [(X.length:Int)]
def rkV (op:Int) (D X D' X':List Int) (k:Int):List Int:=
 if op=2 then eachV (fun a b=>Fx.hold (a+b)) D X D' X' else if op=3 then eachV (fun a b=>Fx.hold (a - b)) D X D' X' else if op=4 then eachV Fx.mulI D X D' X' else if op=5 then scaleV D X k else if op=6 then mV D X D' X' else if op=7 then flV D X else if op=8 then smV D X k
 else if op=9 then (if isP D X then [allV D X] else []) else if op=10 then (if isP D X then [meanV D X] else []) else if op=11 then bentV k D X else if op=12 then rwV D X D' X' k else if op=13 then plV D X k else shpV D X [(X.length:Int)]
/-- A tensor: its numbers are Go's. -/
def TnsG (D X:List Int):Prop:=isP D X∧RI D∧RI X
theorem RI_good {D:List Int} (h:goodN (ntl D)):RI D:=by
 have:=RI_itl h.le
 rwa [itl_ntl h.2.1] at this
theorem tnsg {D X:List Int} (h:isP D X) (hx:RI X):TnsG D X:=⟨h,RI_good h.1,hx⟩
theorem isP_itl {J:List Nat} {X:List Int} (h:goodN J) (hx:X.length=prodN J):isP (itl J) X:=by
 unfold isP
 rw [ntl_itl]
 exact ⟨h,hx⟩
theorem RI_map {α:Type} {l:List α} {f:α→Int} (h:∀ a,a∈l→InR (f a)):RI (l.map f):=fun y hy=>by
 obtain ⟨a,ha,rfl⟩:=List.mem_map.1 hy
 exact h a ha
theorem InR_get {x:List Int} (h:RI x) (i:Nat):InR (x.getD i 0):=by
 rcases Nat.lt_or_ge i x.length with hi|hi
 ·exact h.at i hi
 ·rw [List.getD_eq_getElem?_getD,List.getElem?_eq_none hi]
  show InR 0
  unfold InR
  omega
theorem each_g {op:Int→Int→Int} (ho:∀ a b,InR (op a b)) {d x d' y:List Int} (h:eachE d x d' y=0):TnsG (eachD d x d' y) (eachV op d x d' y):=by
 by_cases hp:isP d x∧isP d' y
 ·by_cases hj:joinE d d'=0
  ·obtain ⟨a,b,J,hJ⟩:=joint hp hj
   obtain ⟨_,e2,e3⟩:=hJ.E (op:=op)
   rw [e2,e3]
   exact tnsg (isP_itl hJ.gJ (by simp)) (RI_map fun i _=>ho _ _)
  ·rw [(each_bad (op:=op) hp hj).1] at h
   exact absurd h hj
 ·rw [(each_none (op:=op) hp).1] at h
  cases h
theorem scale_g {d x:List Int} {k:Int} (h:scaleE d x=0):TnsG (scaleD d x) (scaleV d x k):=by
 unfold scaleE at h
 unfold scaleD scaleV
 by_cases hp:isP d x
 ·rw [if_pos hp,if_pos hp]
  exact tnsg ⟨hp.1,by rw [List.length_map];exact hp.2⟩ (RI_map fun i _=>mulI_rng _ _)
 ·rw [if_neg hp] at h
  cases h
theorem bent_g {k:Int} {d x:List Int} (hx:RI x) (h:bentE k d x=0):TnsG (bentD k d x) (bentV k d x):=by
 unfold bentE at h
 unfold bentD bentV
 by_cases hp:(1≤k∧k≤5)∧isP d x
 ·rw [if_pos hp,if_pos hp]
  exact tnsg ⟨hp.2.1,by rw [List.length_map];exact hp.2.2⟩ (RI_map fun i hi=>bend_rng (hx i hi))
 ·rw [if_neg hp] at h
  cases h
theorem shp_g {d x d':List Int} (hx:RI x) (h:shpE d x d'=0):TnsG (shpD d x d') (shpV d x d'):=by
 unfold shpE at h
 unfold shpD shpV
 by_cases hp:isP d x∧goodN (ntl d')
 ·rw [if_pos hp] at h
  by_cases hl:prodN (ntl d')=x.length
  ·rw [if_pos ⟨hp,hl⟩,if_pos ⟨hp,hl⟩]
   exact tnsg ⟨hp.2,hl.symm⟩ hx
  ·rw [if_neg hl] at h
   cases h
 ·rw [if_neg hp] at h
  cases h
theorem is_nil (v:Int):isP [] [v]:=by
 unfold isP
 refine ⟨⟨by simp [ntl],fun y hy=>by simp [ntl] at hy,by simp [ntl,prodN]⟩,by simp [ntl,prodN]⟩
theorem all_g {d x:List Int} (v:Int) (hv:InR v):TnsG [] [v]:=tnsg (is_nil v) fun y hy=>by
 simp at hy
 subst hy
 exact hv
theorem allV_rng (d x:List Int):InR (allV d x):=by
 unfold allV
 split
 ·exact hold_rng _
 ·unfold InR;omega
theorem meanV_rng (d x:List Int):InR (meanV d x):=by
 unfold meanV meanI
 split
 ·exact hold_rng _
 ·unfold InR;omega
theorem fl_g {d x:List Int} (hx:RI x) (h:flE d x=0):TnsG (flD d x) (flV d x):=by
 unfold flE at h
 unfold flD flV
 by_cases hp:isP d x
 ·rw [if_pos hp] at h
  by_cases h2:d.length=2
  ·rw [if_pos ⟨hp,h2⟩,if_pos ⟨hp,h2⟩]
   obtain ⟨D0,D1,rfl,hl,h0,h1,hm⟩:=two_sides hp h2
   show TnsG [(D1:Int),(D0:Int)] (flipV D0 D1 x)
   refine tnsg (is_two (by unfold flipV;simp [Nat.mul_comm]) h1 h0 (by rw [Nat.mul_comm];exact hm)) ?_
   unfold flipV
   exact RI_map fun i _=>InR_get hx _
  ·rw [if_neg h2] at h
   cases h
 ·rw [if_neg hp] at h
  cases h
theorem m_g {d x d' y:List Int} (h:mE d x d' y=0):TnsG (mD d x d' y) (mV d x d' y):=by
 unfold mE at h
 unfold mD mV
 by_cases hp:isP d x∧isP d' y
 ·rw [if_pos hp] at h
  by_cases hm:mP d x d' y
  ·rw [if_pos hm] at h
   by_cases hg:mG d d'
   ·rw [if_pos ⟨hm,hg⟩,if_pos ⟨hm,hg⟩]
    obtain ⟨A,C,rfl,_⟩:=two_sides hm.1.1 hm.2.2.1
    obtain ⟨C',E,rfl,_⟩:=two_sides hm.1.2 hm.2.1
    show TnsG [(A:Int),(E:Int)] (mulV A C E x y)
    have hg':=good_two.1 hg
    refine tnsg (is_two (by unfold mulV;simp) hg'.1 hg'.2.1 hg'.2.2) ?_
    unfold mulV
    exact RI_map fun i _=>by unfold mulN rnd;exact hold_rng _
   ·rw [if_neg hg] at h
    cases h
  ·rw [if_neg hm] at h
   cases h
 ·rw [if_neg hp] at h
  cases h
theorem sm_g {d x:List Int} {side:Int} (h:smE d x side=0):TnsG (smD d x side) (smV d x side):=by
 unfold smE at h
 unfold smD smV
 by_cases hp:smP d x side
 ·rw [if_pos hp,if_pos hp]
  have hg:=hp.1.1
  have hs:side.toNat < (ntl d).length:=by
   have:=hp.2
   rw [ntl_len]
   omega
  have hless:goodN (lessN (ntl d) side.toNat):=good_less hg _ hs
  refine tnsg (isP_itl hless (by unfold sumV;simp)) ?_
  unfold sumV
  exact RI_map fun i _=>by unfold sumN;exact hold_rng _
 ·rw [if_neg hp] at h
  cases h
theorem rw_g {d x d' y:List Int} {st:Int} (h:rwE d x d' y st=0):TnsG (rwD d x d' y st) (rwV d x d' y st):=by
 unfold rwE at h
 unfold rwD rwV
 by_cases hp:rwA d x d' y st
 ·rw [if_pos hp] at h
  by_cases hs:rwS d d'
  ·rw [if_pos hs] at h
   rw [if_pos ⟨hp,hs⟩,if_pos ⟨hp,hs⟩]
   unfold gatE at h
   by_cases hg:goodN (ntl (rwO d d' st))
   ·unfold newD
    rw [if_pos hg,if_pos hg]
    obtain ⟨O,C,W,rfl,_⟩:=three_sides hp.2.1 hs.2.1
    refine tnsg ⟨hg,?_⟩ ?_
    ·rw [convV_len]
     exact (prod_two O _).symm
    ·unfold convV
     exact RI_map fun i _=>by unfold convN rnd;exact hold_rng _
   ·rw [if_neg hg] at h
    cases h
  ·rw [if_neg hs] at h
   cases h
 ·rw [if_neg hp] at h
  cases h
theorem pl_g {d x:List Int} {wd:Int} (hx:RI x) (h:plE d x wd=0):TnsG (plD d x wd) (plV d x wd):=by
 unfold plE at h
 unfold plD plV
 by_cases hp:isP d x
 ·rw [if_pos hp] at h
  by_cases h2:d.length=2
  ·rw [if_pos h2] at h
   by_cases hw:plW d wd
   ·rw [if_pos ⟨hp,h2,hw⟩,if_pos ⟨hp,h2,hw⟩]
    obtain ⟨D0,D1,rfl,hl,h0,h1,hm⟩:=two_sides hp h2
    have hw':1≤wd∧wd≤(D1:Int):=hw
    obtain ⟨W,rfl⟩:∃ W:Nat,wd=W:=⟨wd.toNat,by omega⟩
    show TnsG [(D0:Int),((D1 / W:Nat):Int)] (poolV D0 D1 (D1 / W) W x)
    have hq:1≤D1 / W:=Nat.div_pos (by omega) (by omega)
    have hle:D0*(D1 / W)≤4096:=Nat.le_trans (Nat.mul_le_mul_left D0 (Nat.div_le_self D1 W)) hm
    refine tnsg (is_two (poolV_len _ _ _ _ _) h0 hq hle) ?_
    unfold poolV
    exact RI_map fun i _=>InR_get hx _
   ·rw [if_neg hw] at h
    cases h
  ·rw [if_neg h2] at h
   cases h
 ·rw [if_neg hp] at h
  cases h
theorem rk_g {op:Int} (h1:2≤op) (h2:op≤14) {D X D' X':List Int} {k:Int} (hx:RI X) (h:rkE op D X D' X' k=0):TnsG (rkD op D X D' X' k) (rkV op D X D' X' k):=by
 have hall:op=2∨op=3∨op=4∨op=5∨op=6∨op=7∨op=8∨op=9∨op=10∨op=11∨op=12∨op=13∨op=14:=by omega
 rcases hall with rfl|rfl|rfl|rfl|rfl|rfl|rfl|rfl|rfl|rfl|rfl|rfl|rfl
 ·exact each_g (fun a b=>hold_rng _) h
 ·exact each_g (fun a b=>hold_rng _) h
 ·exact each_g (fun a b=>mulI_rng a b) h
 ·exact scale_g h
 ·exact m_g h
 ·exact fl_g hx h
 ·exact sm_g h
 ·have hp:isP D X:=by
   by_cases hp:isP D X
   ·exact hp
   ·have h':matE D X=0:=h
    unfold matE at h'
    rw [if_neg hp] at h'
    cases h'
  show TnsG [] (if isP D X then [allV D X] else [])
  rw [if_pos hp]
  exact all_g (d:=D) (x:=X) _ (allV_rng D X)
 ·have hp:isP D X:=by
   by_cases hp:isP D X
   ·exact hp
   ·have h':matE D X=0:=h
    unfold matE at h'
    rw [if_neg hp] at h'
    cases h'
  show TnsG [] (if isP D X then [meanV D X] else [])
  rw [if_pos hp]
  exact all_g (d:=D) (x:=X) _ (meanV_rng D X)
 ·exact bent_g hx h
 ·exact rw_g h
 ·exact pl_g hx h
 ·exact shp_g hx h
end Go.Proofs.YtiampagapgjedaaGreatDoor.Wd
