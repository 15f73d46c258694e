/- Bent lines and their slopes, as numbers: -/
import Derived.Laws.EntriesVeiled
import Derived.Test.YtihjnbbhpojnpaaGreatDoorQ12
import Derived.Test.YtihjnbbhpojnpaaGreatDoorQ14
set_option linter.unusedVariables false
set_option linter.unusedSimpArgs false
set_option maxHeartbeats 16000000
set_option maxRecDepth 16000
namespace Go.Proofs.YtihjnbbhpojnpaaGreatDoor.Fx
open Go.RowKit
/-- A number by 8, by 2: rounded to the even one half way. -/
def by8 (x:Int):Int:=sg (decide (x < 0)) (rq x.natAbs 8)
def by2 (x:Int):Int:=sg (decide (x < 0)) (rq x.natAbs 2)
theorem rq8_rng (n:Nat):rq n 8≤n:=by
 unfold rq
 split <;> omega
theorem by8_rng {x:Int} (h:InR x):InR (by8 x):=by
 unfold InR at h ⊢
 have:=rq8_rng x.natAbs
 unfold by8 sg
 split
 ·rename_i hs
  have:=of_decide_eq_true hs
  omega
 ·rename_i hs
  have:¬ x < 0:=fun c=>hs (decide_eq_true c)
  omega
/-- The lines, by kind; their slopes. -/
def bendI (k x:Int):Int:=
 if k=1 then (if x < 0 then 0 else x)
 else if k=2 then (if 0 < x then x else by8 x)
 else if k=3 then (if 4294967296 < x then 4294967296 else if x < -4294967296 then -4294967296 else x)
 else if k=4 then (if x < 0 then hold (-x) else x)
 else (if hold (by2 x+2147483648) < 0 then 0 else if 4294967296 < hold (by2 x+2147483648) then 4294967296 else hold (by2 x+2147483648))
theorem bend_rng {k x:Int} (h:InR x):InR (bendI k x):=by
 have h8:=by8_rng h
 have hh:=hold_rng (-x)
 unfold InR at *
 unfold bendI
 repeat' split
 all_goals omega
end Go.Proofs.YtihjnbbhpojnpaaGreatDoor.Fx
namespace Go.Proofs.YtihjnbbhpojnpaaGreatDoor.Wd
open Go.RowKit Fx
def bentE (k:Int) (d x:List Int):Int:=if (1≤k∧k≤5)∧isP d x then 0 else 1
def bentD (k:Int) (d x:List Int):List Int:=if (1≤k∧k≤5)∧isP d x then d else []
def bentV (k:Int) (d x:List Int):List Int:=if (1≤k∧k≤5)∧isP d x then x.map fun y=>Fx.bendI k y else []
abbrev twoP (op:Int):Prop:=op=2∨op=3∨op=4∨op=6∨op=12
abbrev byP (op:Int):Prop:=op=5∨op=8∨op=11∨op=12∨op=13
/-- The table. -/
def rkE (op:Int) (D X D' X':List Int) (k:Int):Int:=
 if op=2∨op=3∨op=4 then eachE D X D' X' else if op=5 then scaleE D X else if op=6 then mE D X D' X' else if op=7 then flE D X else if op=8 then smE D X k
 else if op=9∨op=10 then matE D X else if op=11 then bentE k D X else if op=12 then rwE D X D' X' k else if op=13 then plE D X k else shpE D X [(X.length:Int)]
def rkD (op:Int) (D X D' X':List Int) (k:Int):List Int:=
 if op=2∨op=3∨op=4 then eachD D X D' X' else if op=5 then scaleD D X else if op=6 then mD D X D' X' else if op=7 then flD D X else if op=8 then smD D X k
 else if op=9∨op=10 then [] else if op=11 then bentD k D X else if op=12 then rwD D X D' X' k else if op=13 then plD D X k else shpD D X [(X.length:Int)]
def rkV (op:Int) (D X D' X':List Int) (k:Int):List Int:=
 if op=2 then eachV (fun a b=>Fx.hold (a+b)) D X D' X' else if op=3 then eachV (fun a b=>Fx.hold (a - b)) D X D' X' else if op=4 then eachV Fx.mulI D X D' X' else if op=5 then scaleV D X k else if op=6 then mV D X D' X' else if op=7 then flV D X else if op=8 then smV D X k
 else if op=9 then (if isP D X then [allV D X] else []) else if op=10 then (if isP D X then [meanV D X] else []) else if op=11 then bentV k D X else if op=12 then rwV D X D' X' k else if op=13 then plV D X k else shpV D X [(X.length:Int)]
/-- A tensor: its numbers are Go's. -/
def TnsG (D X:List Int):Prop:=isP D X∧RI D∧RI X
theorem RI_good {D:List Int} (h:goodN (ntl D)):RI D:=by
 have:=RI_itl h.le
 rwa [itl_ntl h.2.1] at this
theorem tnsg {D X:List Int} (h:isP D X) (hx:RI X):TnsG D X:=⟨h,RI_good h.1,hx⟩
theorem isP_itl {J:List Nat} {X:List Int} (h:goodN J) (hx:X.length=prodN J):isP (itl J) X:=by
 unfold isP
 rw [ntl_itl]
 exact ⟨h,hx⟩
theorem RI_map {α:Type} {l:List α} {f:α→Int} (h:∀ a,a∈l→InR (f a)):RI (l.map f):=fun y hy=>by
 obtain ⟨a,ha,rfl⟩:=List.mem_map.1 hy
 exact h a ha
theorem InR_get {x:List Int} (h:RI x) (i:Nat):InR (x.getD i 0):=by
 rcases Nat.lt_or_ge i x.length with hi|hi
 ·exact h.at i hi
 ·rw [List.getD_eq_getElem?_getD,List.getElem?_eq_none hi]
  show InR 0
  unfold InR
  omega
theorem each_g {op:Int→Int→Int} (ho:∀ a b,InR (op a b)) {d x d' y:List Int} (h:eachE d x d' y=0):TnsG (eachD d x d' y) (eachV op d x d' y):=by
 by_cases hp:isP d x∧isP d' y
 ·by_cases hj:joinE d d'=0
  ·obtain ⟨a,b,J,hJ⟩:=joint hp hj
   obtain ⟨_,e2,e3⟩:=hJ.E (op:=op)
   rw [e2,e3]
   exact tnsg (isP_itl hJ.gJ (by simp)) (RI_map fun i _=>ho _ _)
  ·rw [(each_bad (op:=op) hp hj).1] at h
   exact absurd h hj
 ·rw [(each_none (op:=op) hp).1] at h
  cases h
theorem scale_g {d x:List Int} {k:Int} (h:scaleE d x=0):TnsG (scaleD d x) (scaleV d x k):=by
 unfold scaleE at h
 unfold scaleD scaleV
 by_cases hp:isP d x
 ·rw [if_pos hp,if_pos hp]
  exact tnsg ⟨hp.1,by rw [List.length_map];exact hp.2⟩ (RI_map fun i _=>mulI_rng _ _)
 ·rw [if_neg hp] at h
  cases h
theorem bent_g {k:Int} {d x:List Int} (hx:RI x) (h:bentE k d x=0):TnsG (bentD k d x) (bentV k d x):=by
 unfold bentE at h
 unfold bentD bentV
 by_cases hp:(1≤k∧k≤5)∧isP d x
 ·rw [if_pos hp,if_pos hp]
  exact tnsg ⟨hp.2.1,by rw [List.length_map];exact hp.2.2⟩ (RI_map fun i hi=>bend_rng (hx i hi))
 ·rw [if_neg hp] at h
  cases h
theorem shp_g {d x d':List Int} (hx:RI x) (h:shpE d x d'=0):TnsG (shpD d x d') (shpV d x d'):=by
 unfold shpE at h
 unfold shpD shpV
 by_cases hp:isP d x∧goodN (ntl d')
 ·rw [if_pos hp] at h
  by_cases hl:prodN (ntl d')=x.length
  ·rw [if_pos ⟨hp,hl⟩,if_pos ⟨hp,hl⟩]
   exact tnsg ⟨hp.2,hl.symm⟩ hx
  ·rw [if_neg hl] at h
   cases h
 ·rw [if_neg hp] at h
  cases h
theorem is_nil (v:Int):isP [] [v]:=by
 unfold isP
 refine ⟨⟨by simp [ntl],fun y hy=>by simp [ntl] at hy,by simp [ntl,prodN]⟩,by simp [ntl,prodN]⟩
theorem all_g {d x:List Int} (v:Int) (hv:InR v):TnsG [] [v]:=tnsg (is_nil v) fun y hy=>by
 simp at hy
 subst hy
 exact hv
theorem allV_rng (d x:List Int):InR (allV d x):=by
 unfold allV
 split
 ·exact hold_rng _
 ·unfold InR;omega
theorem meanV_rng (d x:List Int):InR (meanV d x):=by
 unfold meanV meanI
 split
 ·exact hold_rng _
 ·unfold InR;omega
theorem fl_g {d x:List Int} (hx:RI x) (h:flE d x=0):TnsG (flD d x) (flV d x):=by
 unfold flE at h
 unfold flD flV
 by_cases hp:isP d x
 ·rw [if_pos hp] at h
  by_cases h2:d.length=2
  ·rw [if_pos ⟨hp,h2⟩,if_pos ⟨hp,h2⟩]
   obtain ⟨D0,D1,rfl,hl,h0,h1,hm⟩:=two_sides hp h2
   show TnsG [(D1:Int),(D0:Int)] (flipV D0 D1 x)
   refine tnsg (is_two (by unfold flipV;simp [Nat.mul_comm]) h1 h0 (by rw [Nat.mul_comm];exact hm)) ?_
   unfold flipV
   exact RI_map fun i _=>InR_get hx _
  ·rw [if_neg h2] at h
   cases h
 ·rw [if_neg hp] at h
  cases h
theorem m_g {d x d' y:List Int} (h:mE d x d' y=0):TnsG (mD d x d' y) (mV d x d' y):=by
 unfold mE at h
 unfold mD mV
 by_cases hp:isP d x∧isP d' y
 ·rw [if_pos hp] at h
  by_cases hm:mP d x d' y
  ·rw [if_pos hm] at h
   by_cases hg:mG d d'
   ·rw [if_pos ⟨hm,hg⟩,if_pos ⟨hm,hg⟩]
    obtain ⟨A,C,rfl,_⟩:=two_sides hm.1.1 hm.2.2.1
    obtain ⟨C',E,rfl,_⟩:=two_sides hm.1.2 hm.2.1
    show TnsG [(A:Int),(E:Int)] (mulV A C E x y)
    have hg':=good_two.1 hg
    refine tnsg (is_two (by unfold mulV;simp) hg'.1 hg'.2.1 hg'.2.2) ?_
    unfold mulV
    exact RI_map fun i _=>by unfold mulN rnd;exact hold_rng _
   ·rw [if_neg hg] at h
    cases h
  ·rw [if_neg hm] at h
   cases h
 ·rw [if_neg hp] at h
  cases h
theorem sm_g {d x:List Int} {side:Int} (h:smE d x side=0):TnsG (smD d x side) (smV d x side):=by
 unfold smE at h
 unfold smD smV
 by_cases hp:smP d x side
 ·rw [if_pos hp,if_pos hp]
  have hg:=hp.1.1
  have hs:side.toNat < (ntl d).length:=by
   have:=hp.2
   rw [ntl_len]
   omega
  have hless:goodN (lessN (ntl d) side.toNat):=good_less hg _ hs
  refine tnsg (isP_itl hless (by unfold sumV;simp)) ?_
  unfold sumV
  exact RI_map fun i _=>by unfold sumN;exact hold_rng _
 ·rw [if_neg hp] at h
  cases h
theorem rw_g {d x d' y:List Int} {st:Int} (h:rwE d x d' y st=0):TnsG (rwD d x d' y st) (rwV d x d' y st):=by
 unfold rwE at h
 unfold rwD rwV
 by_cases hp:rwA d x d' y st
 ·rw [if_pos hp] at h
  by_cases hs:rwS d d'
  ·rw [if_pos hs] at h
   rw [if_pos ⟨hp,hs⟩,if_pos ⟨hp,hs⟩]
   unfold gatE at h
   by_cases hg:goodN (ntl (rwO d d' st))
   ·unfold newD
    rw [if_pos hg,if_pos hg]
    obtain ⟨O,C,W,rfl,_⟩:=three_sides hp.2.1 hs.2.1
    refine tnsg ⟨hg,?_⟩ ?_
    ·rw [convV_len]
     exact (prod_two O _).symm
    ·unfold convV
     exact RI_map fun i _=>by unfold convN rnd;exact hold_rng _
   ·rw [if_neg hg] at h
    cases h
  ·rw [if_neg hs] at h
   cases h
 ·rw [if_neg hp] at h
  cases h
theorem pl_g {d x:List Int} {wd:Int} (hx:RI x) (h:plE d x wd=0):TnsG (plD d x wd) (plV d x wd):=by
 unfold plE at h
 unfold plD plV
 by_cases hp:isP d x
 ·rw [if_pos hp] at h
  by_cases h2:d.length=2
  ·rw [if_pos h2] at h
   by_cases hw:plW d wd
   ·rw [if_pos ⟨hp,h2,hw⟩,if_pos ⟨hp,h2,hw⟩]
    obtain ⟨D0,D1,rfl,hl,h0,h1,hm⟩:=two_sides hp h2
    have hw':1≤wd∧wd≤(D1:Int):=hw
    obtain ⟨W,rfl⟩:∃ W:Nat,wd=W:=⟨wd.toNat,by omega⟩
    show TnsG [(D0:Int),((D1 / W:Nat):Int)] (poolV D0 D1 (D1 / W) W x)
    have hq:1≤D1 / W:=Nat.div_pos (by omega) (by omega)
    have hle:D0*(D1 / W)≤4096:=Nat.le_trans (Nat.mul_le_mul_left D0 (Nat.div_le_self D1 W)) hm
    refine tnsg (is_two (poolV_len _ _ _ _ _) h0 hq hle) ?_
    unfold poolV
    exact RI_map fun i _=>InR_get hx _
   ·rw [if_neg hw] at h
    cases h
  ·rw [if_neg h2] at h
   cases h
 ·rw [if_neg hp] at h
  cases h
theorem rk_g {op:Int} (h1:2≤op) (h2:op≤14) {D X D' X':List Int} {k:Int} (hx:RI X) (h:rkE op D X D' X' k=0):TnsG (rkD op D X D' X' k) (rkV op D X D' X' k):=by
 have hall:op=2∨op=3∨op=4∨op=5∨op=6∨op=7∨op=8∨op=9∨op=10∨op=11∨op=12∨op=13∨op=14:=by omega
 rcases hall with rfl|rfl|rfl|rfl|rfl|rfl|rfl|rfl|rfl|rfl|rfl|rfl|rfl
 ·exact each_g (fun a b=>hold_rng _) h
 ·exact each_g (fun a b=>hold_rng _) h
 ·exact each_g (fun a b=>mulI_rng a b) h
 ·exact scale_g h
 ·exact m_g h
 ·exact fl_g hx h
 ·exact sm_g h
 ·have hp:isP D X:=by
   by_cases hp:isP D X
   ·exact hp
   ·have h':matE D X=0:=h
    unfold matE at h'
    rw [if_neg hp] at h'
    cases h'
  show TnsG [] (if isP D X then [allV D X] else [])
  rw [if_pos hp]
  exact all_g (d:=D) (x:=X) _ (allV_rng D X)
 ·have hp:isP D X:=by
   by_cases hp:isP D X
   ·exact hp
   ·have h':matE D X=0:=h
    unfold matE at h'
    rw [if_neg hp] at h'
    cases h'
  show TnsG [] (if isP D X then [meanV D X] else [])
  rw [if_pos hp]
  exact all_g (d:=D) (x:=X) _ (meanV_rng D X)
 ·exact bent_g hx h
 ·exact rw_g h
 ·exact pl_g hx h
 ·exact shp_g hx h
def leafE (ns:List Nd) (d x:List Int):Int:=if 512≤ns.length then 2 else if isP d x then 0 else 1
def leafR (ns:List Nd) (d x:List Int):Int:=if ns.length < 512∧isP d x then (ns.length:Int) else 0
def leafN (ns:List Nd) (d x:List Int):List Nd:=if ns.length < 512∧isP d x then ns++[⟨1,-1,-1,0,d,x⟩] else ns
theorem OwnK.form_ {e:TypeId} {W:World} {B:Nat} {v:Value} {l:List Int} (h:OwnK .i64 e W B v l):∃ p n c,v = .slice p n c:=by
 obtain ⟨p,n,c,e,_⟩:=h.nums.lst
 exact ⟨p,n,c,e⟩
theorem OwnN_block {e:TypeId} {W:World} {B n:Nat} {v:Value} {xs:List Value} (h:W.ownsRow B e 6 v n xs):∀ j,v.ownBlock=some j→B≤j:=fun j hj=>(World.ownsRow.lt h j hj).1
theorem box3 {w W0:World} {a b c d e f:Value} (h:((w.alloc (.cells #[a,b] 49)).alloc (.cells #[c,d] 49)).alloc (.cells #[e,f] 49)=W0):Hid (Below w.heap.size w W0)∧Hid (Cel W0 w.heap.size a b)∧Hid (Cel W0 (w.heap.size+1) c d)∧Hid (Cel W0 (w.heap.size+2) e f):=⟨hidB (w:=w) h (by go_grown),celW h (by simp [go_sem]),celW h (by simp [go_sem]),celW h (by simp [go_sem])⟩
def ndN (ns:List Nd) (i:Int):Nd:=ns.getD i.toNat ⟨0,0,0,0,[],[]⟩
abbrev okD (ns:List Nd) (op a b:Int):Prop:=(2≤op∧op≤14)∧(0≤a∧a < (ns.length:Int))∧(twoP op→0≤b∧b < (ns.length:Int))
def dB (op b:Int):Int:=if twoP op then b else -1
def dK (op k:Int):Int:=if byP op then k else 0
def dD (ns:List Nd) (op b:Int):List Int:=if twoP op then (ndN ns b).D else []
def dX (ns:List Nd) (op b:Int):List Int:=if twoP op then (ndN ns b).X else []
def dE (ns:List Nd) (op a b k:Int):Int:=rkE op (ndN ns a).D (ndN ns a).X (dD ns op b) (dX ns op b) (dK op k)
def dN (ns:List Nd) (op a b k:Int):Nd:=⟨op,a,dB op b,dK op k,rkD op (ndN ns a).D (ndN ns a).X (dD ns op b) (dX ns op b) (dK op k),rkV op (ndN ns a).D (ndN ns a).X (dD ns op b) (dX ns op b) (dK op k)⟩
def doE (ns:List Nd) (op a b k:Int):Int:=if 512≤ns.length then 2 else if okD ns op a b then dE ns op a b k else 1
abbrev doP (ns:List Nd) (op a b k:Int):Prop:=(ns.length < 512∧okD ns op a b)∧dE ns op a b k=0
def doR (ns:List Nd) (op a b k:Int):Int:=if doP ns op a b k then (ns.length:Int) else 0
def doN (ns:List Nd) (op a b k:Int):List Nd:=if doP ns op a b k then ns++[dN ns op a b k] else ns
def NodesG (ns:List Nd):Prop:=∀ nd,nd∈ns→TnsG nd.D nd.X
theorem box6 {W:World} {b:Nat} {v0 v1 v2 v3 v4 v5:Value} {e:TypeId} (h:W.heap[b]?=some (.cells #[v0,v1,v2,v3,v4,v5] e (0,0))):
  (W.cell? ⟨b,0,none⟩=some v0∧W.cell? ⟨b,1,none⟩=some v1∧W.cell? ⟨b,2,none⟩=some v2∧W.cell? ⟨b,3,none⟩=some v3∧W.cell? ⟨b,4,none⟩=some v4∧W.cell? ⟨b,5,none⟩=some v5)∧∀ j,W.frozen? ⟨b,j,none⟩=false:=by
 have c:∀ j v,#[v0,v1,v2,v3,v4,v5][j]?=some v→W.cell? ⟨b,j,none⟩=some v:=fun j v hj=>by
  unfold World.cell?
  simp only [h]
  exact hj
 refine ⟨⟨c 0 _ rfl,c 1 _ rfl,c 2 _ rfl,c 3 _ rfl,c 4 _ rfl,c 5 _ rfl⟩,fun j=>?_⟩
 unfold World.frozen?
 simp [h]
theorem nd_at {ns:List Nd} {i:Nat} {nd:Nd} (h:ns[i]?=some nd):ndN ns (i:Int)=nd:=by
 unfold ndN
 rw [show ((i:Int)).toNat=i from rfl,List.getD_eq_getElem?_getD,h]
 rfl
theorem nd_mem {ns:List Nd} {i:Nat} {nd:Nd} (h:ns[i]?=some nd):nd∈ns:=List.mem_of_getElem? h
theorem NodesG.nil:NodesG []:=fun nd h=>by simp at h
theorem NodesG.push {ns:List Nd} {nd:Nd} (h:NodesG ns) (hn:TnsG nd.D nd.X):NodesG (ns++[nd]):=fun x hx=>by
 rcases List.mem_append.1 hx with hx|hx
 ·exact h x hx
 ·simp at hx
  subst hx
  exact hn
theorem NodesG.leaf {ns:List Nd} {d x:List Int} (h:NodesG ns) (hx:RI x):NodesG (leafN ns d x):=by
 unfold leafN
 split
 ·rename_i hp
  exact h.push (tnsg hp.2 hx)
 ·exact h
theorem NodesG.at {ns:List Nd} {i:Int} (h:NodesG ns) (h0:0≤i) (h1:i < (ns.length:Int)):TnsG (ndN ns i).D (ndN ns i).X:=by
 obtain ⟨j,rfl⟩:∃ j:Nat,i=j:=⟨i.toNat,by omega⟩
 have hj:ns[j]?=some (ns[j]'(by omega)):=List.getElem?_eq_getElem _
 rw [nd_at hj]
 exact h _ (nd_mem hj)
theorem NodesG.do {ns:List Nd} {op a b k:Int} (h:NodesG ns):NodesG (doN ns op a b k):=by
 unfold doN
 split
 ·rename_i hp
  have ho:=hp.1.2
  refine h.push ?_
  exact rk_g ho.1.1 ho.1.2 (h.at ho.2.1.1 ho.2.1.2).2.2 hp.2
 ·exact h
def TapC (W:World) (B b:Nat) (ns:List Nd):Prop:=Tap 70 77 W B b ns
abbrev SC:List TypeId:=[70,77]
theorem TapC.up {W W':World} {B b:Nat} {ns:List Nd} (h:TapC W B b ns) (hB:Below W.heap.size W W'):TapC W' B b ns:=Tap.up h hB
theorem ne_ct:77≠70:=by decide
def Spare (tb:Nat) (w w':World):Prop:=∀ x v,w.heap[tb]?=some (.cells #[v] 70 (0,0))→x≠tb→x < w.heap.size→v.ownBlock≠some x→w'.heap[x]?=w.heap[x]?∧∃ v',w'.heap[tb]?=some (.cells #[v'] 70 (0,0))∧v'.ownBlock≠some x
theorem Spare.of {tb:Nat} {w w':World} (h:Below w.heap.size w w'):Spare tb w w':=fun x v hv _ hx ho=>⟨h.block x hx,v,(h.block tb (heap_lt hv)).trans hv,ho⟩
theorem Spare.trans {tb:Nat} {a b c:World} (h:Spare tb a b) (h2:Spare tb b c):Spare tb a c:=fun x v hv hn hx ho=>by
 obtain ⟨e1,v',hv',ho'⟩:=h x v hv hn hx ho
 have hb:x < b.heap.size:=by
  rw [Array.getElem?_eq_getElem hx] at e1
  exact heap_lt e1
 obtain ⟨e2,r⟩:=h2 x v' hv' hn hb ho'
 exact ⟨e2.trans e1,r⟩
/-- No node's dims lie in block x. -/
def AvT (x:Nat) (W:World) (tb:Nat):Prop:=∃ v,W.heap[tb]?=some (.cells #[v] 70 (0,0))∧∀ g m c,v = .slice (some ⟨g,0,none⟩) m c→g < W.heap.size∧∀ i,i < m→∀ ad m' c',W.cell? ⟨g,i*6+4,none⟩=some (.slice (some ad) m' c')→ad.block≠x
def SpA (H tb:Nat) (w w':World):Prop:=∀ x,x < H→AvT x w tb→AvT x w' tb
theorem AvT.up {x tb:Nat} {W W':World} (h:AvT x W tb) (hB:Below W.heap.size W W'):AvT x W' tb:=by
 obtain ⟨v,hv,h⟩:=h
 refine ⟨v,(hB.block tb (heap_lt hv)).trans hv,fun g m c e=>?_⟩
 obtain ⟨hg,h2⟩:=h g m c e
 refine ⟨Nat.lt_of_lt_of_le hg hB.size,fun i hi ad m' c' hc=>h2 i hi ad m' c' ?_⟩
 unfold World.cell? at hc ⊢
 rw [← hB.block g hg]
 exact hc
theorem av_push {w6 w8:World} {B tb N cL c8 g8 x:Nat} {pL:Option Addr} {xs0 u:List Value} {s:Value} (hv6:w6.heap[tb]?=some (.cells #[.slice pL N cL] 70 (0,0))) (ho6:w6.ownsRow B 77 6 (.slice pL N cL) N xs0) (hl:xs0.length=N*6) (hv8:w8.heap[tb]?=some (.cells #[.slice pL N cL] 70 (0,0)))
  (ho8:w8.ownsRow B 77 6 (.slice (some ⟨g8,0,none⟩) (N+1) c8) (N+1) (xs0++u)) (hu:u[4]?=some s) (hs:∀ ad m c,s = .slice (some ad) m c→ad.block≠x) (hav:AvT x w6 tb):AvT x (w8.setCell ⟨tb,0,none⟩ (.slice (some ⟨g8,0,none⟩) (N+1) c8)) tb:=by
 obtain ⟨v,hv,hav⟩:=hav
 rw [hv6] at hv
 cases hv
 have hne:g8≠tb:=fun e=>owned_off ne_ct hv8 ho8 (by rw [← e];rfl)
 refine ⟨_,(heap_setat hv8).trans rfl,fun g m c e=>?_⟩
 cases e
 refine ⟨by have:=(World.ownsRow.lt ho8 g8 rfl).2;simpa using this,fun i hi ad m' c' hc=>?_⟩
 have hc2:w8.cell? ⟨g8,i*6+4,none⟩=some (.slice (some ad) m' c'):=by
  unfold World.cell? at hc ⊢
  rw [heap_set _ _ _ _ _ hne] at hc
  exact hc
 by_cases hi2:i < N
 ·have hj:i*6+4 < xs0.length:=by omega
  obtain ⟨z,hz⟩:∃ z,xs0[i*6+4]?=some z:=⟨_,List.getElem?_eq_getElem hj⟩
  have h8:=ho8.cells (g:=g8) rfl (i*6+4) z (by rw [List.getElem?_append_left hj];exact hz)
  rw [addr_plus,Nat.zero_add,hc2] at h8
  cases h8
  rcases ho6.2 with ⟨h0,h1⟩|⟨g,cap,cur,hv,hb,hg,rest⟩
  ·omega
  ·cases hv
   have h6:=ho6.cells (g:=g) rfl (i*6+4) _ hz
   rw [addr_plus,Nat.zero_add] at h6
   exact (hav g N cL rfl).2 i hi2 ad m' c' h6
 ·have hiN:i=N:=by omega
  subst hiN
  have h8:=ho8.cells (g:=g8) rfl (i*6+4) s (by rw [List.getElem?_append_right (by omega),hl,Nat.add_sub_cancel_left];exact hu)
  rw [addr_plus,Nat.zero_add,hc2] at h8
  cases h8
  exact hs ad m' c' rfl
theorem own_above {W:World} {H na ca:Nat} {pa:Option Addr} {D:List Int} (h:OwnK .i64 3 W H (.slice pa na ca) D):∀ ad m c,Value.slice pa na ca = .slice (some ad) m c→H≤ad.block:=fun ad m c e=>by
 rcases h.2 with ⟨hn,_⟩|⟨g,cap,cur,hv,hb,_⟩
 ·rw [e] at hn
  cases hn
 ·rw [e] at hv
  cases hv
  exact hb
theorem own_avoid {W:World} {H na ca x:Nat} {pa:Option Addr} {D:List Int} (h:OwnK .i64 3 W H (.slice pa na ca) D) (hx:x < H):∀ ad m c,Value.slice pa na ca = .slice (some ad) m c→ad.block≠x:=fun ad m c e=>by
 have:=own_above h ad m c e
 omega
/-- What a tape's change leaves to others. -/
def Spar2 (tb:Nat) (w w':World):Prop:=Spare tb w w'∧SpA w.heap.size tb w w'
theorem Spar2.of {tb:Nat} {w w':World} (h:Below w.heap.size w w'):Spar2 tb w w':=⟨Spare.of h,fun x _ ha=>ha.up h⟩
theorem Spar2.trans {tb:Nat} {a b c:World} (h:Spar2 tb a b) (h2:Spar2 tb b c) (hs:a.heap.size≤b.heap.size):Spar2 tb a c:=⟨h.1.trans h2.1,fun x hx ha=>h2.2 x (Nat.lt_of_lt_of_le hx hs) (h.2 x hx ha)⟩
theorem Spar2.kept {tb pn cn:Nat} {pa:Option Addr} {D:List Int} {w w6 w7:World} (h:Below w.heap.size w w6) (h2:Spare tb w6 w7∧∀ H,OwnK .i64 3 w6 H (.slice pa pn cn) D→SpA H tb w6 w7) (hD:OwnK .i64 3 w6 w.heap.size (.slice pa pn cn) D):Spar2 tb w w7:=
 ⟨(Spare.of h).trans h2.1,fun x hx ha=>h2.2 _ hD x hx (ha.up h)⟩
/-- A node's dims lie below the heap's end. -/
theorem TapC.av {W:World} {B tb x:Nat} {ns:List Nd} (h:TapC W B tb ns) (hx:W.heap.size≤x):AvT x W tb:=by
 obtain ⟨p,c,xs,hv,ho,hn,_⟩:=Tap.head h
 refine ⟨_,hv,fun g m c' e=>?_⟩
 cases e
 refine ⟨(World.ownsRow.lt ho g rfl).2,fun i hi ad m' c'' hc=>?_⟩
 obtain ⟨q,nd,s,t,e,_,_,_,_,_,h4,_,hs,_⟩:=node_cells ho hn rfl i hi
 cases e
 rw [hc] at h4
 cases h4
 rcases hs.2 with ⟨h0,_⟩|⟨g2,cap,cur,hv2,_,hg2,_⟩
 ·cases h0
 ·cases hv2
  have:=heap_lt hg2
  intro e
  have e':g2=x:=e
  omega
/-- A row of ints of another's may grow. -/
theorem TapC.beside {W W':World} {B tb r:Nat} {ns:List Nd} {cs:Array Value} {fz:Nat×Nat} (h:TapC W B tb ns) (hg:W.grownBy W' (some r)) (hr:W.heap[r]?=some (.cells cs 3 fz)) (ha:AvT r W tb):TapC W' B tb ns:=by
 have hk:∀ (k:Nat) (cs':Array Value) (e:TypeId) (fz':Nat×Nat),W.heap[k]?=some (.cells cs' e fz')→e≠3→W'.heap[k]?=some (.cells cs' e fz'):=fun k cs' e fz' h1 h2=>by
  rw [hg.block k (heap_lt h1) (fun e'=>by cases e';rw [hr] at h1;cases h1;exact h2 rfl)]
  exact h1
 obtain ⟨hb,v,xs,hv,ho,hn⟩:=h
 have hrow:W'.ownsRow B 77 6 v ns.length xs:=by
  refine ⟨ho.1,?_⟩
  rcases ho.2 with hn|⟨g,cap,cur,hv,hb,hg,rest⟩
  ·exact .inl hn
  ·exact .inr ⟨g,cap,cur,hv,hb,hk _ _ _ _ hg (by decide),rest⟩
 refine ⟨hb,v,xs,hk _ _ _ _ hv (by decide),hrow,hn.1,fun i nd hi=>?_⟩
 obtain ⟨s,t,e,hs,ht⟩:=hn.2 i nd hi
 refine ⟨s,t,e,⟨hs.1,?_⟩,⟨ht.1,?_⟩⟩
 ·rcases hs.2 with hn'|⟨g,cap,cur,hvs,hbs,hgs,rest⟩
  ·exact .inl hn'
  ·refine .inr ⟨g,cap,cur,hvs,hbs,?_,rest⟩
   rw [hg.block g (heap_lt hgs) (fun e'=>?_)]
   ·exact hgs
   ·cases e'
    obtain ⟨v',hv',hav⟩:=ha
    rw [hv] at hv'
    cases hv'
    have hi':i < ns.length:=by
     rcases Nat.lt_or_ge i ns.length with h|h
     ·exact h
     ·rw [List.getElem?_eq_none h] at hi;cases hi
    have hx:xs[i*6+4]?=some s:=by
     have h4:((xs.drop (i*6)).take 6)[4]?=some s:=by rw [e];rfl
     rw [List.getElem?_take] at h4
     split at h4
     ·rw [List.getElem?_drop] at h4
      exact h4
     ·cases h4
    rcases ho.2 with ⟨_,h1⟩|⟨g2,cap2,cur2,hv2,_,_,_⟩
    ·omega
    ·subst hv2
     have h6:=ho.cells (g:=g2) rfl (i*6+4) _ hx
     rw [addr_plus,Nat.zero_add,hvs] at h6
     exact (hav g2 _ _ rfl).2 i hi' _ _ _ h6 rfl
 ·rcases ht.2 with hn'|⟨g,cap,cur,hvs,hbs,hgs,rest⟩
  ·exact .inl hn'
  ·exact .inr ⟨g,cap,cur,hvs,hbs,hk _ _ _ _ hgs (by decide),rest⟩
theorem AvT.beside {W W':World} {tb r x B:Nat} {ns:List Nd} {cs:Array Value} {fz:Nat×Nat} (h:AvT x W tb) (hT:TapC W B tb ns) (hg:W.grownBy W' (some r)) (hr:W.heap[r]?=some (.cells cs 3 fz)):AvT x W' tb:=by
 obtain ⟨v,hv,h⟩:=h
 have hne:∀ (k:Nat) (cs':Array Value) (e:TypeId) (fz':Nat×Nat),W.heap[k]?=some (.cells cs' e fz')→e≠3→W'.heap[k]?=W.heap[k]?:=fun k cs' e fz' h1 h2=>hg.block k (heap_lt h1) (fun e'=>by cases e';rw [hr] at h1;cases h1;exact h2 rfl)
 refine ⟨v,(hne _ _ _ _ hv (by decide)).trans hv,fun g m c e=>?_⟩
 obtain ⟨hgl,h2⟩:=h g m c e
 refine ⟨Nat.lt_of_lt_of_le hgl hg.size,fun i hi ad m' c' hc=>h2 i hi ad m' c' ?_⟩
 obtain ⟨p,c2,xs,hv2,ho,_,_⟩:=Tap.head hT
 rw [hv] at hv2
 cases hv2
 cases e
 rcases ho.2 with ⟨h0,_⟩|⟨g2,cap2,cur2,hv2,_,hg2,_⟩
 ·cases h0
 ·cases hv2
  unfold World.cell? at hc ⊢
  rw [← hne _ _ _ _ hg2 (by decide)]
  exact hc
/-- A row of nodes of one's own, and where it lies. -/
def OwnL (e:TypeId) (B n:Nat) (xs:List Value) (r:Option Nat) (H:Nat) (v:Value) (W:World):Prop:=OwnN e B n xs v W∧∃ g c,v = .slice (some ⟨g,0,none⟩) n c∧(r=some g∨H≤g)
theorem OwnL.up {e:TypeId} {B n:Nat} {xs:List Value} {r:Option Nat} {H:Nat} {v:Value} {W W':World} (h:OwnL e B n xs r H v W) (hB:Below W.heap.size W W'):OwnL e B n xs r H v W':=⟨OwnN.up h.1 hB,h.2⟩
theorem nodeC:StT Tryz.prog 68 77 80:=⟨Tryz.underlying68,by kernel_rfl⟩
/-- append of one node that a literal holds, and where the row lies then. -/
theorem appL {P:Program} {t e:TypeId} {b:Nat} (T:StT P t e b) (hb:b≤128) (ty:TypeId) (W:World) (B:Nat) (v:Value) (n:Nat) (xs:List Value) (ho:W.ownsRow B e 6 v n xs) (g:Nat) (u:List Value) (hg:W.heap[g]?=some (.cells u.toArray e (0,0))) (hu:u.length=6) (h1:∀ x∈u,x.oneCell'=true) (hn:n+1≤1073741824) (hB:B≤W.heap.size):
  ∃ g' cap w',(Builtin.append_ #[t,t] ty #[v,.slice (some ⟨g,0,none⟩) 1 1]).run P W = .ok (.slice (some ⟨g',0,none⟩) (n+1) cap) w'∧w'.ownsRow B e 6 (.slice (some ⟨g',0,none⟩) (n+1) cap) (n+1) (xs++u)∧W.grownBy w' v.ownBlock∧(v.ownBlock=some g'∨g'=W.heap.size):=by
 have hi:=T.hi
 cases h:P.info? e with
 | none=>rw [h] at hi;cases hi
 | some i=>
  rw [h] at hi
  simp only [Option.map_some,Option.some.injEq,Prod.mk.injEq] at hi
  obtain ⟨hz,hs,hby⟩:=hi
  cases hz0:i.zero with
  | none=>rw [hz0] at hz;cases hz
  | some z=>
   rw [hz0] at hz
   simp only [Option.map_some,Option.some.injEq] at hz
   have hm:(n+1)*b≤1073741824*128:=Nat.mul_le_mul hn hb
   obtain ⟨g',cap,w',hr,h2,h3,h4,_⟩:=run_append_lies (P:=P) W t ty B e i z 6 b T.ht h hz0 hs hby hz (by decide) v n xs ho ⟨g,0,none⟩ 1 1 u (by omega) (fun j x hj=>by
    rw [addr_plus,Nat.zero_add]
    unfold World.cell?
    simpa [hg] using hj) h1 (by omega) (by unfold maxLen;omega) (by omega) hB _ rfl
   exact ⟨g',cap,w',hr,h2,h3,h4⟩
theorem cnew_any (w:World):Calls Tryz.prog 12 #[] w fun e w'=>∃ b,e = .returned (.pointer (some ⟨b,0,none⟩))∧TapC w' w.heap.size b []∧Below w.heap.size w w':=by
 go_enter Tryz.func12,Tryz.ntmps12
 go_wp2
 exact bodyPost_ret (v:=.pointer (some ⟨w.heap.size,0,none⟩)) (by simp [results,Tryz.results12,go_sem]) rfl ⟨_,rfl,Tap.new (Nat.le_refl _),up_alloc _ _⟩
theorem cfull_any (B tb:Nat) (ns:List Nd) (q:Bool) (hq:decide (512≤ns.length)=q) (w:World) (hT:TapC w B tb ns):Calls Tryz.prog 73 #[.pointer (some ⟨tb,0,none⟩)] w fun e w'=>e = .returned (.bool q)∧w'=w:=by
 have hTT:Hid (TapC w B tb ns):=hT
 obtain ⟨pL,cL,xs0,hv,ho,hn0,hnc⟩:=Tap.head hT
 obtain ⟨N,eN⟩:∃ N,ns.length=N:=⟨_,rfl⟩
 rw [eN] at hv ho hnc
 have hcell:=(head_cell hv).1
 have hz:=heap_lt hv
 rw [eN] at hq
 have hq2:decide ((512:Int)≤(N:Int))=q:=by rw [← hq];exact decide_eq_decide.2 (by omega)
 clear hT hTT hv ho hn0 hnc eN
 go_enter Tryz.func73,Tryz.ntmps73
 go_wp2
 go_ret
 exact ⟨rfl,rfl⟩
theorem chas_any (B tb:Nat) (ns:List Nd) (i:Int) (q:Bool) (hq:decide (0≤i∧i < (ns.length:Int))=q) (w:World) (hT:TapC w B tb ns):Calls Tryz.prog 47 #[.pointer (some ⟨tb,0,none⟩),.int .i64 i] w fun e w'=>e = .returned (.bool q)∧w'=w:=by
 have hTT:Hid (TapC w B tb ns):=hT
 obtain ⟨pL,cL,xs0,hv,ho,hn0,hnc⟩:=Tap.head hT
 obtain ⟨N,eN⟩:∃ N,ns.length=N:=⟨_,rfl⟩
 rw [eN] at hv ho hnc
 have hcell:=(head_cell hv).1
 have hz:=heap_lt hv
 rw [eN] at hq
 clear hT hTT hv ho hn0 hnc eN
 by_cases h0:i < 0
 ·have hq':q=false:=by rw [← hq];exact decide_eq_false (by omega)
  subst hq'
  have d1:decide (0≤i)=false:=decide_eq_false (by omega)
  clear hq h0
  go_enter Tryz.func47,Tryz.ntmps47
  go_wp2
  go_ret
  exact ⟨rfl,rfl⟩
 ·have d1:decide (0≤i)=true:=decide_eq_true (by omega)
  have d2:decide (i < (N:Int))=q:=by rw [← hq];exact decide_eq_decide.2 (by omega)
  clear hq h0
  go_enter Tryz.func47,Tryz.ntmps47
  go_wp2
  go_ret
  exact ⟨rfl,rfl⟩
theorem chasb_any (op:Int) (q:Bool) (hq:decide (twoP op)=q) (w:World):
  Calls Tryz.prog 76 #[.int .i64 op] w fun e w'=>e = .returned (.bool q)∧w'=w:=by
 by_cases h2:op=2
 ·subst h2
  have hq':q=true:=by rw [← hq];decide
  subst hq'
  clear hq
  go_enter Tryz.func76,Tryz.ntmps76
  go_wp2
  go_ret
  exact ⟨rfl,rfl⟩
 by_cases h3:op=3
 ·subst h3
  have hq':q=true:=by rw [← hq];decide
  subst hq'
  clear hq
  go_enter Tryz.func76,Tryz.ntmps76
  go_wp2
  go_ret
  exact ⟨rfl,rfl⟩
 by_cases h4:op=4
 ·subst h4
  have hq':q=true:=by rw [← hq];decide
  subst hq'
  clear hq
  go_enter Tryz.func76,Tryz.ntmps76
  go_wp2
  go_ret
  exact ⟨rfl,rfl⟩
 by_cases h6:op=6
 ·subst h6
  have hq':q=true:=by rw [← hq];decide
  subst hq'
  clear hq
  go_enter Tryz.func76,Tryz.ntmps76
  go_wp2
  go_ret
  exact ⟨rfl,rfl⟩
 by_cases h12:op=12
 ·subst h12
  have hq':q=true:=by rw [← hq];decide
  subst hq'
  clear hq
  go_enter Tryz.func76,Tryz.ntmps76
  go_wp2
  go_ret
  exact ⟨rfl,rfl⟩
 have g2:(op==2)=false:=by simpa using h2
 have g3:(op==3)=false:=by simpa using h3
 have g4:(op==4)=false:=by simpa using h4
 have g6:(op==6)=false:=by simpa using h6
 have g12:(op==12)=false:=by simpa using h12
 have hq':q=false:=by rw [← hq];exact decide_eq_false (by omega)
 subst hq'
 clear hq h2 h3 h4 h6 h12
 go_enter Tryz.func76,Tryz.ntmps76
 go_wp2
 go_ret
 exact ⟨rfl,rfl⟩
theorem chask_any (op:Int) (q:Bool) (hq:decide (byP op)=q) (w:World):
  Calls Tryz.prog 77 #[.int .i64 op] w fun e w'=>e = .returned (.bool q)∧w'=w:=by
 by_cases h5:op=5
 ·subst h5
  have hq':q=true:=by rw [← hq];decide
  subst hq'
  clear hq
  go_enter Tryz.func77,Tryz.ntmps77
  go_wp2
  go_ret
  exact ⟨rfl,rfl⟩
 by_cases h8:op=8
 ·subst h8
  have hq':q=true:=by rw [← hq];decide
  subst hq'
  clear hq
  go_enter Tryz.func77,Tryz.ntmps77
  go_wp2
  go_ret
  exact ⟨rfl,rfl⟩
 by_cases h11:op=11
 ·subst h11
  have hq':q=true:=by rw [← hq];decide
  subst hq'
  clear hq
  go_enter Tryz.func77,Tryz.ntmps77
  go_wp2
  go_ret
  exact ⟨rfl,rfl⟩
 by_cases h12:op=12
 ·subst h12
  have hq':q=true:=by rw [← hq];decide
  subst hq'
  clear hq
  go_enter Tryz.func77,Tryz.ntmps77
  go_wp2
  go_ret
  exact ⟨rfl,rfl⟩
 by_cases h13:op=13
 ·subst h13
  have hq':q=true:=by rw [← hq];decide
  subst hq'
  clear hq
  go_enter Tryz.func77,Tryz.ntmps77
  go_wp2
  go_ret
  exact ⟨rfl,rfl⟩
 have g5:(op==5)=false:=by simpa using h5
 have g8:(op==8)=false:=by simpa using h8
 have g11:(op==11)=false:=by simpa using h11
 have g12:(op==12)=false:=by simpa using h12
 have g13:(op==13)=false:=by simpa using h13
 have hq':q=false:=by rw [← hq];exact decide_eq_false (by omega)
 subst hq'
 clear hq h5 h8 h11 h12 h13
 go_enter Tryz.func77,Tryz.ntmps77
 go_wp2
 go_ret
 exact ⟨rfl,rfl⟩
theorem below_two {B:Nat} {a b c:World} (h:Below B a b) (h2:Below B b c):Below B a c:=h.trans h2
theorem ccopied_any (p p2:Option Addr) (n c n2 c2:Nat) (dd yy:List Int) (hg:isP dd yy) (w:World) (h1:Nums .i64 w (.slice p n c) dd) (h2:Nums .i64 w (.slice p2 n2 c2) yy):
  Calls Tryz.prog 48 #[.agg #[.slice p n c,.slice p2 n2 c2]] w fun e w'=>∃ v,e = .returned v∧TRes w' w.heap.size v dd yy∧Below w.heap.size w w':=by
 have hl1:dd.length≤1073741824:=by have:=hg.1.1;rw [ntl_len] at this;omega
 have hl2:yy.length≤1073741824:=by have h3:=hg.1.2.2;have h4:=hg.2;omega
 have CI:Hid (∀ W,Below w.heap.size w W→Calls Tryz.prog 52 #[.slice p n c] W fun e w'=>∃ v',e = .returned v'∧OwnK .i64 3 w' W.heap.size v' dd∧Below W.heap.size W w'):=fun W hW=>cloneI_any _ dd (by omega) W (h1.up hW)
 have CF:Hid (∀ W,Below w.heap.size w W→Calls Tryz.prog 66 #[.slice p2 n2 c2] W fun e w'=>∃ v',e = .returned v'∧OwnK .i64 46 w' W.heap.size v' yy∧Below W.heap.size W w'):=fun W hW=>cloneF_any _ yy (by omega) W (h2.up hW)
 haveI:Nonempty World:=⟨w⟩
 clear h1 h2 hl1 hl2 hg
 go_enter Tryz.func48,Tryz.ntmps48
 go_wp2_with fail
 generalize hW0:World.alloc _ _=W0
 have HB0:=hidB (w:=w) hW0 (by go_grown)
 have XA:Hid (Cel W0 w.heap.size (.slice p n c) (.slice p2 n2 c2)):=celW hW0 (by simp [go_sem])
 have XR:Hid (Cel W0 (w.heap.size+1) (.slice none 0 0) (.slice none 0 0)):=celW hW0 (by simp [go_sem])
 clear hW0
 obtain ⟨a0,a1,_,_⟩:=XA.out
 have k0:=cell_lt a0
 refine rel [⟨2,5,fun v W=>OwnK .i64 3 W W0.heap.size v dd⟩,⟨5,8,fun v W=>OwnK .i64 46 W W0.heap.size v yy⟩,⟨6,9,OwnT W0.heap.size dd yy⟩] 7 10 (by kernel_rfl) rfl rfl (by kernel_rfl) (by rfl) ?_ ?_
 ·intro e he v W W' h hb
  simp only [List.mem_cons,List.not_mem_nil,or_false] at he
  rcases he with rfl|rfl|rfl
  ·exact OwnK.up h hb
  ·exact OwnK.up h hb
  ·exact OwnT.up h hb
 apply Exists.intro
 refine ⟨fun x=>?_,?_,?_⟩
 ·simp only [List.take_succ_cons,List.take_zero]
  iterate 2
   refine relQuiet rfl rfl ?_
   apply Exists.intro
   refine ⟨fun F hF hf K hK=>?_,?_⟩
   ·have hFc:=hF.cell
    have hFf:=hF.frozen
    go_big_quiet_op
    exact hK
   (try simp only [putL])
  refine relTold rfl rfl ?_ ?_
  ·intro F hF hf d
   have hFc:=hF.cell
   have hFf:=hF.frozen
   simp [yieldsR,yieldsUpon,go_sem]
   refine (CI.out (F d) (bstep HB0.out (hF.below d))).mono ?_
   rintro e' w8 ⟨v8,rfl,h8,hb8⟩
   exact ⟨_,rfl,h8.low (hF.below d).size,hb8⟩
  iterate 2
   (try simp only [putL])
   refine relQuiet rfl rfl ?_
   apply Exists.intro
   refine ⟨fun F hF hf K hK=>?_,?_⟩
   ·have hFc:=hF.cell
    have hFf:=hF.frozen
    go_big_quiet_op
    exact hK
  (try simp only [putL])
  refine relTold rfl rfl ?_ ?_
  ·intro F hF hf d
   have hFc:=hF.cell
   have hFf:=hF.frozen
   simp [yieldsR,yieldsUpon,go_sem]
   refine (CF.out (F d) (bstep HB0.out (hF.below d))).mono ?_
   rintro e' w8 ⟨v8,rfl,h8,hb8⟩
   exact ⟨_,rfl,h8.low (hF.below d).size,hb8⟩
  (try simp only [putL])
  refine relTold rfl rfl ?_ ?_
  ·intro F hF hf d
   have hFc:=hF.cell
   have hFf:=hF.frozen
   have h9:OwnK .i64 3 (F d) W0.heap.size (x 2) dd:=hf _ List.mem_cons_self (by rfl) d
   have h8:OwnK .i64 46 (F d) W0.heap.size (x 5) yy:=hf _ (List.mem_cons_of_mem _ List.mem_cons_self) (by rfl) d
   obtain ⟨p9,n9,c9,e9⟩:=h9.form_
   obtain ⟨p8,n8,c8,e8⟩:=h8.form_
   rw [e9] at h9
   rw [e8] at h8
   simp [yieldsR,yieldsUpon,go_sem,e9,e8]
   exact ⟨⟨_,_,_,_,_,_,rfl,h9,h8⟩,Below.refl _ _⟩
  (try simp only [putL])
  refine relEnd ?_
  exact rfl
 ·exact fun x=>rfl
 ·intro w1 xs hB1 hf
  simp only [List.drop_succ_cons,List.drop_zero]
  have hT1:=hf _ (List.mem_cons_of_mem _ (List.mem_cons_of_mem _ List.mem_cons_self))
  obtain ⟨x2,e2⟩:∃ q,xs 2=q:=⟨_,rfl⟩
  obtain ⟨x5,e5⟩:∃ q,xs 5=q:=⟨_,rfl⟩
  obtain ⟨x6,e6⟩:∃ q,xs 6=q:=⟨_,rfl⟩
  simp only [e6] at hT1
  simp only [e2,e5,e6]
  obtain ⟨pa,na,ca,pb,nb,cb,rfl,hs,ht⟩:=hT1
  clear e2 e5 e6 hf CI CF a0 a1 k0
  obtain ⟨HF,r0,r1,r2,r3,z0,z1⟩:=fin2 XR HB0 hB1 hs ht (by omega)
  clear hs ht
  go_wp2
  exact bodyPost_ret (v:=.agg #[.slice pa na ca,.slice pb nb cb]) (by simp [results,Tryz.results48,go_sem,z0,z1]) rfl ⟨_,rfl,HF.out⟩
theorem ckeep_sp (B tb:Nat) (ns:List Nd) (nd:Nd) (pa pb:Option Addr) (na ca nb cb:Nat) (hroom:ns.length < 512) (w:World) (hT:TapC w B tb ns) (hs:OwnK .i64 3 w B (.slice pa na ca) nd.D) (ht:OwnK .i64 46 w B (.slice pb nb cb) nd.X):
  Calls Tryz.prog 75 #[.pointer (some ⟨tb,0,none⟩),.agg #[.int .i64 nd.op,.int .i64 nd.a,.int .i64 nd.b,.int .i64 nd.k,.slice pa na ca,.slice pb nb cb]] w fun e w'=>e = .returned (.int .i64 (ns.length:Int))∧TapC w' B tb (ns++[nd])∧Below B w w'∧Only SC w w'∧Spare tb w w'∧∀ H,OwnK .i64 3 w H (.slice pa na ca) nd.D→SpA H tb w w':=by
 obtain ⟨op,a,bb,k,D,X⟩:=nd
 have hTT:Hid (TapC w B tb ns):=hT
 obtain ⟨pL,cL,xs0,hv,ho,hn0,hnc⟩:=Tap.head hT
 obtain ⟨N,eN⟩:∃ N,ns.length=N:=⟨_,rfl⟩
 rw [eN] at hv ho hnc
 have hcell:=(head_cell hv).1
 have hz:=heap_lt hv
 rw [eN]
 have hl:Hid (N < 512):=by show _ < _;rw [← eN];exact hroom
 have HBB:Hid (B≤w.heap.size):=Nat.le_trans hTT.out.1 (Nat.le_of_lt hz)
 have HS:Hid (OwnK .i64 3 w B (.slice pa na ca) D∧OwnK .i64 46 w B (.slice pb nb cb) X):=⟨hs,ht⟩
 clear hT hv ho hn0 hnc hs ht hroom hcell hz cL xs0 pL
 go_enter Tryz.func75,Tryz.ntmps75
 go_wp2_with fail
 refine name_world (fun w6 hw6=>?_)
 have HN6:w6.heap[w.heap.size]?=some (.cells #[.int .i64 op,.int .i64 a,.int .i64 bb,.int .i64 k,.slice pa na ca,.slice pb nb cb] 77 (0,0)):=by rw [hw6];exact heap_alloc_new _ _
 have HB6a:Below w.heap.size w w6:=by rw [hw6];exact up_alloc _ _
 have HB6:Hid (Below B w w6∧B≤w6.heap.size∧Only SC w w6∧Spare tb w w6∧Below w.heap.size w w6):=⟨HB6a.mono HBB.out,Nat.le_trans HBB.out HB6a.size,Only.of HB6a,Spare.of HB6a,HB6a⟩
 have HND6:Hid (NdC w6 B ⟨op,a,bb,k,D,X⟩ [.int .i64 op,.int .i64 a,.int .i64 bb,.int .i64 k,.slice pa na ca,.slice pb nb cb]):=⟨_,_,rfl,HS.out.1.up HB6a,HS.out.2.up HB6a⟩
 have HT6:=hTT.out.up HB6a
 obtain ⟨pL,cL,xs0,hv,ho,hn0,hnc⟩:=Tap.head HT6
 rw [eN] at hv ho
 have HTP:Hid (B≤tb∧w6.heap[tb]?=some (.cells #[.slice pL N cL] 70 (0,0))∧ns.length=N∧w6.ownsRow B 77 6 (.slice pL N cL) N xs0∧NdsC w6 B ns xs0):=⟨hTT.out.1,hv,eN,ho,hn0⟩
 have hrow:∀ z,Value.ownBlock (.slice pL N cL)=some z→z < w.heap.size:=fun z hz'=>by
  have h3:=hTT.out
  obtain ⟨pL',cL',xs',hv',ho',_,_⟩:=Tap.head h3
  rw [eN] at hv' ho'
  have h4:=HB6a.block tb (heap_lt hv')
  rw [hv,hv'] at h4
  cases h4
  exact (World.ownsRow.lt ho' z hz').2
 have HX6:Hid (w6.heap[w.heap.size]?=some (.cells #[.int .i64 op,.int .i64 a,.int .i64 bb,.int .i64 k,.slice pa na ca,.slice pb nb cb] 77 (0,0))∧some w.heap.size≠Value.ownBlock (.slice pL N cL)):=⟨HN6,fun h=>by have:=hrow _ h.symm;omega⟩
 have HRW:Hid (∀ z,Value.ownBlock (.slice pL N cL)=some z→z < w6.heap.size):=fun z hz'=>Nat.lt_of_lt_of_le (hrow z hz') HB6a.size
 have HU1:Hid (∀ z∈([.int .i64 op,.int .i64 a,.int .i64 bb,.int .i64 k,.slice pa na ca,.slice pb nb cb]:List Value),z.oneCell'=true):=HND6.out.one
 clear hv ho hn0 hnc hrow hw6 HT6 HB6a HN6 HS
 refine from_region (by kernel_rfl) ?_
 refine seg (fun q W=>match q with|false=>Below w6.heap.size w6 W|true=>w6.grownBy W (Value.ownBlock (.slice pL N cL))) (fun W W'=>W.grownBy W' (Value.ownBlock (.slice pL N cL))) 7 [⟨6,11,LitS 77 w6.heap.size [.int .i64 op,.int .i64 a,.int .i64 bb,.int .i64 k,.slice pa na ca,.slice pb nb cb]⟩,⟨7,12,OwnL 77 B (N+1) (xs0++[.int .i64 op,.int .i64 a,.int .i64 bb,.int .i64 k,.slice pa na ca,.slice pb nb cb]) (Value.ownBlock (.slice pL N cL)) w6.heap.size⟩] 0 10 21 rfl rfl (by kernel_rfl) (by rfl) ?_ ?_ ?_ ?_ ?_ ?_
 ·intro q W W' h hb
  cases q
  ·exact bstep h hb
  ·exact grown_up h hb
 ·exact ⟨rfl,rfl,rfl,Nat.le_refl _,fun _ _=>rfl⟩
 ·exact .inl ⟨_,List.mem_cons_of_mem _ List.mem_cons_self,rfl⟩
 ·intro e he v W W' h hb
  simp only [List.mem_cons,List.not_mem_nil,or_false] at he
  rcases he with rfl|rfl
  ·exact LitS.up h hb
  ·exact OwnL.up h hb
 ·intro e he hne v W W' h hc ht
  simp only [List.mem_cons,List.not_mem_nil,or_false] at he
  rcases he with rfl|rfl
  ·exact LitS.grown h ht HRW.out
  ·exact absurd rfl hne
 apply Exists.intro
 refine ⟨fun x=>?_,?_,?_⟩
 ·simp only [List.drop_succ_cons,List.drop_zero,List.take_succ_cons,List.take_zero]
  iterate 4
   refine segQuiet rfl rfl ?_
   apply Exists.intro
   refine ⟨fun b F hF hf K hK=>?_,?_⟩
   ·have hFc:=hF.cls
    go_big_quiet_op
    exact hK
   (try simp only [putL])
  refine segQuiet rfl rfl ?_
  apply Exists.intro
  refine ⟨fun b F hF hf K hK=>?_,?_⟩
  ·have hFc:=hF.cls
   have q0:∀ d,(F d).cell? ⟨tb,0,none⟩=some (.slice pL N cL):=fun d=>by
    have hK:w6.grownBy (F d) (Value.ownBlock (.slice pL N cL)):=by
     cases b
     ·exact below_grown _ (hFc d)
     ·exact hFc d
    exact hK.cell (head_cell HTP.out.2.1).1 (Ne.symm (owned_off ne_ct HTP.out.2.1 HTP.out.2.2.2.1))
   clear hFc
   go_big_quiet_op
   exact hK
  (try simp only [putL])
  refine segQuiet rfl rfl ?_
  apply Exists.intro
  refine ⟨fun b F hF hf K hK=>?_,?_⟩
  ·have hFc:=hF.cls
   have q0:∀ d,(F d).heap[w.heap.size]?=some (.cells #[.int .i64 op,.int .i64 a,.int .i64 bb,.int .i64 k,.slice pa na ca,.slice pb nb cb] 77 (0,0)):=fun d=>by
    have hK:w6.grownBy (F d) (Value.ownBlock (.slice pL N cL)):=by
     cases b
     ·exact below_grown _ (hFc d)
     ·exact hFc d
    rw [hK.block _ (heap_lt HX6.out.1) HX6.out.2]
    exact HX6.out.1
   have q1:=fun d=>(box6 (q0 d)).1.1
   have q2:=fun d=>(box6 (q0 d)).1.2.1
   have q3:=fun d=>(box6 (q0 d)).1.2.2.1
   have q4:=fun d=>(box6 (q0 d)).1.2.2.2.1
   have q5:=fun d=>(box6 (q0 d)).1.2.2.2.2.1
   have q6:=fun d=>(box6 (q0 d)).1.2.2.2.2.2
   clear hFc q0
   go_big_quiet_op
   exact hK
  (try simp only [putL])
  refine segTold rfl (by decide) rfl ?_ ?_
  ·intro b F hF hf d
   have hFc:=hF.cls
   have hcls:w6.heap.size≤(F d).heap.size:=by
    cases b
    ·exact (hFc d).size
    ·exact (hFc d).size
   simp [yieldsR,yieldsUpon,go_sem]
   exact ⟨⟨(F d).heap.size,rfl,heap_alloc_new (F d) _,hcls⟩,up_alloc _ _⟩
  (try simp only [putL])
  refine segBusy rfl rfl rfl ?_ ?_
  ·intro W hW hf
   have h7:=hf _ List.mem_cons_self (by rfl) W
   obtain ⟨g7,e7,hg7,_⟩:=h7
   simp only [] at e7
   obtain ⟨g8,c8,w8,hr8,ho8,hgr8,hat8⟩:=appL nodeC (by decide) 68 W B (.slice pL N cL) N xs0 (owns_only (S:=[]) HTP.out.2.2.2.1 (Only.of hW) (by simp)) g7 [.int .i64 op,.int .i64 a,.int .i64 bb,.int .i64 k,.slice pa na ca,.slice pb nb cb] hg7 rfl HU1.out (by have:=hl.out;omega) (Nat.le_trans HTP.out.1 (Nat.le_trans (Nat.le_of_lt (heap_lt HTP.out.2.1)) (Below.size hW)))
   simp [leavesR,leavesUpon,execOp,resolve,invoke,builtin,Act.eval,e7,hr8,Result.andThen]
   exact ⟨⟨ho8,g8,c8,rfl,hat8.imp id fun e=>by rw [e];exact Below.size hW⟩,grown_trans (below_grown _ hW) hgr8,hgr8⟩
  iterate 2
   (try simp only [putL])
   refine segQuiet rfl rfl ?_
   apply Exists.intro
   refine ⟨fun b F hF hf K hK=>?_,?_⟩
   ·have hFc:=hF.cls
    go_big_quiet_op
    exact hK
  (try simp only [putL])
  refine segEnd ?_
  exact rfl
 ·exact fun x=>rfl
 ·intro w8 xs8 hC8 hf8
  have hC8':w6.grownBy w8 (Value.ownBlock (.slice pL N cL)):=hC8
  refine from_list 10 (by kernel_rfl) ?_
  simp only [List.drop_succ_cons,List.drop_zero]
  have h8:=hf8 _ (List.mem_cons_of_mem _ List.mem_cons_self)
  obtain ⟨x6,e6⟩:∃ z,xs8 6=z:=⟨_,rfl⟩
  obtain ⟨x7,e7⟩:∃ z,xs8 7=z:=⟨_,rfl⟩
  simp only [e7] at h8
  simp only [e6,e7]
  obtain ⟨h8,g8,c8,rfl,hat8⟩:=h8
  obtain ⟨hTp,hOn⟩:=Tap.push (TT:=70) (NT:=77) ne_ct (by decide) (by decide) (nd:=⟨op,a,bb,k,D,X⟩) HTP.out.1 HTP.out.2.1 (by rw [HTP.out.2.2.1];exact HTP.out.2.2.2.1) HTP.out.2.2.2.2 HND6.out hC8' (by rw [HTP.out.2.2.1];exact h8)
  have hv8:w8.heap[tb]?=some (.cells #[.slice pL N cL] 70 (0,0)):=by
   rw [hC8'.block tb (heap_lt HTP.out.2.1) (Ne.symm (owned_off ne_ct HTP.out.2.1 HTP.out.2.2.2.1))]
   exact HTP.out.2.1
  obtain ⟨r0,r1⟩:=head_cell hv8
  have z0:=(head_cell (v:=.slice (some ⟨g8,0,none⟩) (N+1) c8) (e:=70) (W:=w8.setCell ⟨tb,0,none⟩ (.slice (some ⟨g8,0,none⟩) (N+1) c8)) (by rw [heap_setat hv8];rfl)).1
  have HF:Hid (TapC (w8.setCell ⟨tb,0,none⟩ (.slice (some ⟨g8,0,none⟩) (N+1) c8)) B tb (ns++[⟨op,a,bb,k,D,X⟩])∧Below B w (w8.setCell ⟨tb,0,none⟩ (.slice (some ⟨g8,0,none⟩) (N+1) c8))∧Only SC w (w8.setCell ⟨tb,0,none⟩ (.slice (some ⟨g8,0,none⟩) (N+1) c8))∧Spare tb w (w8.setCell ⟨tb,0,none⟩ (.slice (some ⟨g8,0,none⟩) (N+1) c8))∧∀ H,OwnK .i64 3 w H (.slice pa na ca) D→SpA H tb w (w8.setCell ⟨tb,0,none⟩ (.slice (some ⟨g8,0,none⟩) (N+1) c8))):=by
   refine ⟨hTp,(Below.grown HB6.out.1 hC8' HB6.out.2.1 (OwnN_block HTP.out.2.2.2.1)).setCell (p:=⟨tb,0,none⟩) HTP.out.1 _,HB6.out.2.2.1.trans hOn,HB6.out.2.2.2.1.trans ?_,fun H hH x hx ha=>av_push HTP.out.2.1 HTP.out.2.2.2.1 (by rw [HTP.out.2.2.2.2.1,HTP.out.2.2.1]) hv8 h8 rfl (own_avoid hH hx) (ha.up HB6.out.2.2.2.2)⟩
   intro x v hv hn hx ho
   rw [HTP.out.2.1] at hv
   cases hv
   refine ⟨?_,_,(heap_setat hv8).trans rfl,?_⟩
   ·rw [heap_set _ _ _ _ _ hn]
    exact hC8'.block x hx (Ne.symm ho)
   ·intro e
    have e':g8=x:=by simpa [Value.ownBlock] using e
    rcases hat8 with h|h
    ·exact ho (by rw [h,e'])
    ·omega
  clear hTp hOn hC8 hC8' h8 hf8 hv8 hat8
  have hN1:((N+1:Nat):Int) - 1=(N:Int):=by omega
  have hN2:wrap64 (N:Int)=(N:Int):=by have:=hl.out;unfold wrap64;omega
  go_wp2
  exact bodyPost_ret (v:=.int .i64 (N:Int)) (by simp [results,Tryz.results75,go_sem,hN1,hN2]) rfl ⟨rfl,HF.out⟩
theorem cleaf_full (B tb:Nat) (ns:List Nd) (p p2:Option Addr) (n c n2 c2:Nat) (dd yy:List Int) (hd:RI dd) (w:World) (hT:TapC w B tb ns) (h1:Nums .i64 w (.slice p n c) dd) (h2:Nums .i64 w (.slice p2 n2 c2) yy) (hfull:512≤ns.length):
  Calls Tryz.prog 64 #[.pointer (some ⟨tb,0,none⟩),.agg #[.slice p n c,.slice p2 n2 c2]] w fun e w'=>e = .returned (.tuple #[.int .i64 (leafR ns dd yy),.int .i64 (leafE ns dd yy)])∧TapC w' B tb (leafN ns dd yy)∧Below B w w'∧Only SC w w'∧Spar2 tb w w':=by
 have HBB:Hid (B≤w.heap.size):=Nat.le_trans hT.1 (Nat.le_of_lt (by obtain ⟨_,_,_,hv,_⟩:=Tap.head hT;exact heap_lt hv))
 have hTT:Hid (TapC w B tb ns):=hT
 have HN:Hid (Nums .i64 w (.slice p n c) dd∧Nums .i64 w (.slice p2 n2 c2) yy∧RI dd):=⟨h1,h2,hd⟩
 have hf:decide (512≤ns.length)=true:=decide_eq_true hfull
 have e1:leafE ns dd yy=2:=if_pos hfull
 have e2:leafR ns dd yy=0:=if_neg fun h=>by omega
 have e3:leafN ns dd yy=ns:=if_neg fun h=>by omega
 rw [e1,e2,e3]
 clear hT e1 e2 e3 h1 h2 hd hfull
 go_enter Tryz.func64,Tryz.ntmps64
 go_wp2_with fail
 generalize hW0:World.alloc _ _=W0
 have HB0:=hidB (w:=w) hW0 (by go_grown)
 have XA:Hid (Cel W0 w.heap.size (.slice p n c) (.slice p2 n2 c2)):=celW hW0 (by simp [go_sem])
 clear hW0
 refine (cfull_any B tb ns true hf W0 (hTT.out.up HB0.out)).mono ?_
 rintro e w1 ⟨rfl,ew1⟩
 subst ew1
 clear hf
 go_wp2
 exact bodyPost_ret (v:=.tuple #[.int .i64 0,.int .i64 2]) (by simp [results,Tryz.results64,go_sem]) rfl ⟨rfl,hTT.out.up HB0.out,HB0.out.mono HBB.out,Only.of HB0.out,Spar2.of HB0.out⟩
theorem cleaf_bad (B tb:Nat) (ns:List Nd) (p p2:Option Addr) (n c n2 c2:Nat) (dd yy:List Int) (hd:RI dd) (w:World) (hT:TapC w B tb ns) (h1:Nums .i64 w (.slice p n c) dd) (h2:Nums .i64 w (.slice p2 n2 c2) yy) (hroom:ns.length < 512) (hp:¬ isP dd yy):
  Calls Tryz.prog 64 #[.pointer (some ⟨tb,0,none⟩),.agg #[.slice p n c,.slice p2 n2 c2]] w fun e w'=>e = .returned (.tuple #[.int .i64 (leafR ns dd yy),.int .i64 (leafE ns dd yy)])∧TapC w' B tb (leafN ns dd yy)∧Below B w w'∧Only SC w w'∧Spar2 tb w w':=by
 have HBB:Hid (B≤w.heap.size):=Nat.le_trans hT.1 (Nat.le_of_lt (by obtain ⟨_,_,_,hv,_⟩:=Tap.head hT;exact heap_lt hv))
 have hTT:Hid (TapC w B tb ns):=hT
 have HN:Hid (Nums .i64 w (.slice p n c) dd∧Nums .i64 w (.slice p2 n2 c2) yy∧RI dd):=⟨h1,h2,hd⟩
 have hf:decide (512≤ns.length)=false:=decide_eq_false (by omega)
 have hq:decide (isP dd yy)=false:=decide_eq_false hp
 have e1:leafE ns dd yy=1:=(if_neg (by omega)).trans (if_neg hp)
 have e2:leafR ns dd yy=0:=if_neg fun h=>hp h.2
 have e3:leafN ns dd yy=ns:=if_neg fun h=>hp h.2
 rw [e1,e2,e3]
 clear hT e1 e2 e3 h1 h2 hd hroom hp
 go_enter Tryz.func64,Tryz.ntmps64
 go_wp2_with fail
 generalize hW0:World.alloc _ _=W0
 have HB0:=hidB (w:=w) hW0 (by go_grown)
 have XA:Hid (Cel W0 w.heap.size (.slice p n c) (.slice p2 n2 c2)):=celW hW0 (by simp [go_sem])
 clear hW0
 refine (cfull_any B tb ns false hf W0 (hTT.out.up HB0.out)).mono ?_
 rintro e w1 ⟨rfl,ew1⟩
 subst ew1
 clear hf
 obtain ⟨a0,a1,_,_⟩:=XA.out
 have k0:=cell_lt a0
 go_wp2_with fail
 refine (tgood_any (.slice p n c) (.slice p2 n2 c2) dd yy HN.out.2.2 w1 (HN.out.1.up HB0.out) (HN.out.2.1.up HB0.out)).mono ?_
 rintro e w2 ⟨rfl,hB2⟩
 rw [hq]
 have HB2:=hid2 (bstep HB0.out hB2) hB2
 clear hB2
 clear hq
 go_wp2
 exact bodyPost_ret (v:=.tuple #[.int .i64 0,.int .i64 1]) (by simp [results,Tryz.results64,go_sem]) rfl ⟨rfl,hTT.out.up HB2.out.1,HB2.out.1.mono HBB.out,Only.of HB2.out.1,Spar2.of HB2.out.1⟩
theorem cleaf_good (B tb:Nat) (ns:List Nd) (p p2:Option Addr) (n c n2 c2:Nat) (dd yy:List Int) (hd:RI dd) (w:World) (hT:TapC w B tb ns) (h1:Nums .i64 w (.slice p n c) dd) (h2:Nums .i64 w (.slice p2 n2 c2) yy) (hroom:ns.length < 512) (hp:isP dd yy):
  Calls Tryz.prog 64 #[.pointer (some ⟨tb,0,none⟩),.agg #[.slice p n c,.slice p2 n2 c2]] w fun e w'=>e = .returned (.tuple #[.int .i64 (leafR ns dd yy),.int .i64 (leafE ns dd yy)])∧TapC w' B tb (leafN ns dd yy)∧Below B w w'∧Only SC w w'∧Spar2 tb w w':=by
 have HBB:Hid (B≤w.heap.size):=Nat.le_trans hT.1 (Nat.le_of_lt (by obtain ⟨_,_,_,hv,_⟩:=Tap.head hT;exact heap_lt hv))
 have hTT:Hid (TapC w B tb ns):=hT
 have HN:Hid (Nums .i64 w (.slice p n c) dd∧Nums .i64 w (.slice p2 n2 c2) yy∧RI dd):=⟨h1,h2,hd⟩
 have hf:decide (512≤ns.length)=false:=decide_eq_false (by omega)
 have hq:decide (isP dd yy)=true:=decide_eq_true hp
 have HP:Hid (isP dd yy∧ns.length < 512):=⟨hp,hroom⟩
 have e1:leafE ns dd yy=0:=(if_neg (by omega)).trans (if_pos hp)
 have e2:leafR ns dd yy=(ns.length:Int):=if_pos ⟨hroom,hp⟩
 have e3:leafN ns dd yy=ns++[⟨1,-1,-1,0,dd,yy⟩]:=if_pos ⟨hroom,hp⟩
 rw [e1,e2,e3]
 clear hT e1 e2 e3 h1 h2 hd hroom hp
 go_enter Tryz.func64,Tryz.ntmps64
 go_wp2_with fail
 generalize hW0:World.alloc _ _=W0
 have HB0:=hidB (w:=w) hW0 (by go_grown)
 have XA:Hid (Cel W0 w.heap.size (.slice p n c) (.slice p2 n2 c2)):=celW hW0 (by simp [go_sem])
 clear hW0
 refine (cfull_any B tb ns false hf W0 (hTT.out.up HB0.out)).mono ?_
 rintro e w1 ⟨rfl,ew1⟩
 subst ew1
 clear hf
 obtain ⟨a0,a1,_,_⟩:=XA.out
 have k0:=cell_lt a0
 go_wp2_with fail
 refine (tgood_any (.slice p n c) (.slice p2 n2 c2) dd yy HN.out.2.2 w1 (HN.out.1.up HB0.out) (HN.out.2.1.up HB0.out)).mono ?_
 rintro e w2 ⟨rfl,hB2⟩
 rw [hq]
 have HB2:=hid2 (bstep HB0.out hB2) hB2
 clear hB2
 clear hq
 replace a0:=cell_low a0 HB2.out.2
 replace a1:=cell_low a1 HB2.out.2
 replace k0:=cell_lt a0
 go_wp2_with fail
 refine (ccopied_any p p2 n c n2 c2 dd yy HP.out.1 w2 (HN.out.1.up HB2.out.1) (HN.out.2.1.up HB2.out.1)).mono ?_
 rintro e w3 ⟨v3,rfl,⟨s3,t3,rfl,hs,ht⟩,hB3⟩
 obtain ⟨pa,na,ca,rfl⟩:=hs.form_
 obtain ⟨pb,nb,cb,rfl⟩:=ht.form_
 have HB3:Hid (Below w.heap.size w w3):=bstep HB2.out.1 hB3
 have HO:Hid (OwnK .i64 3 w3 B (.slice pa na ca) dd∧OwnK .i64 46 w3 B (.slice pb nb cb) yy∧OwnK .i64 3 w3 w.heap.size (.slice pa na ca) dd):=⟨hs.low (Nat.le_trans HBB.out HB2.out.1.size),ht.low (Nat.le_trans HBB.out HB2.out.1.size),hs.low HB2.out.1.size⟩
 clear hs ht hB3 a0 a1 k0
 go_wp2_with fail
 refine (ckeep_sp B tb ns ⟨1,-1,-1,0,dd,yy⟩ pa pb na ca nb cb HP.out.2 w3 (hTT.out.up HB3.out) HO.out.1 HO.out.2.1).mono ?_
 rintro e w4 ⟨rfl,hT4,hB4,hO4,hS4⟩
 have HF:Hid (TapC w4 B tb (ns++[⟨1,-1,-1,0,dd,yy⟩])∧Below B w w4∧Only SC w w4∧Spar2 tb w w4):=⟨hT4,below_two (HB3.out.mono HBB.out) hB4,(Only.of HB3.out).trans hO4,Spar2.kept HB3.out hS4 HO.out.2.2⟩
 clear hT4 hB4 hO4 hS4 HO
 go_wp2
 exact bodyPost_ret (v:=.tuple #[.int .i64 (ns.length:Int),.int .i64 0]) (by simp [results,Tryz.results64,go_sem]) rfl ⟨rfl,HF.out⟩
theorem cleaf_sp (B tb:Nat) (ns:List Nd) (hG:NodesG ns) (p p2:Option Addr) (n c n2 c2:Nat) (dd yy:List Int) (hd:RI dd) (hy:RI yy) (w:World) (hT:TapC w B tb ns) (h1:Nums .i64 w (.slice p n c) dd) (h2:Nums .i64 w (.slice p2 n2 c2) yy):
  Calls Tryz.prog 64 #[.pointer (some ⟨tb,0,none⟩),.agg #[.slice p n c,.slice p2 n2 c2]] w fun e w'=>e = .returned (.tuple #[.int .i64 (leafR ns dd yy),.int .i64 (leafE ns dd yy)])∧TapC w' B tb (leafN ns dd yy)∧Below B w w'∧Only SC w w'∧Spar2 tb w w':=by
 by_cases hf:512≤ns.length
 ·exact cleaf_full B tb ns p p2 n c n2 c2 dd yy hd w hT h1 h2 hf
 ·by_cases hp:isP dd yy
  ·exact cleaf_good B tb ns p p2 n c n2 c2 dd yy hd w hT h1 h2 (by omega) hp
  ·exact cleaf_bad B tb ns p p2 n c n2 c2 dd yy hd w hT h1 h2 (by omega) hp
end Go.Proofs.YtihjnbbhpojnpaaGreatDoor.Wd
