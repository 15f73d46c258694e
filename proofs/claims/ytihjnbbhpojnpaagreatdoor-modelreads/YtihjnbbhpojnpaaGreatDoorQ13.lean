/- A sum along a side: that side turned to  -/
import Derived.Test.YtihjnbbhpojnpaaGreatDoorQ10
import Derived.Test.YtihjnbbhpojnpaaGreatDoorQ11
set_option linter.unusedVariables false
set_option linter.unusedSimpArgs false
set_option maxHeartbeats 16000000
set_option maxRecDepth 16000
namespace Go.Proofs.YtihjnbbhpojnpaaGreatDoor.Wd
open Go.RowKit Fx
theorem ord_last:∀ n,n < 5→∀ s,s < n→ordP (lastO n (s:Int)) n:=by decide +kernel
theorem last_far (n:Nat) (side:Int) (h:¬ (0≤side∧side < (n:Int))):¬ ordP (lastO n side) n:=by
 intro ho
 have h1:=ho.1
 have h2:butO n side=itl (List.range n):=by
  unfold butO
  refine List.filter_eq_self.2 fun y hy=>?_
  obtain ⟨k,hk,rfl⟩:=List.mem_map.1 hy
  have:=List.mem_range.1 hk
  simp
  omega
 unfold lastO at h1
 rw [h2,List.length_append,itl_len,List.length_range,List.length_singleton] at h1
 omega
theorem unp_last (n s:Nat) (hn:n≤4) (hs:s < n) (P:List Nat) (hP:P.length+1=n) (k:Nat):unp (ntl (lastO n (s:Int))) (P++[k]) n=insN P s k:=by
 rcases P with _|⟨a,_|⟨b,_|⟨c,_|⟨e,P⟩⟩⟩⟩
 ·simp at hP;subst hP
  obtain rfl:s=0:=by omega
  rfl
 ·simp at hP;subst hP
  obtain rfl|rfl:s=0∨s=1:=by omega
  ·rfl
  ·rfl
 ·simp at hP;subst hP
  obtain rfl|rfl|rfl:s=0∨s=1∨s=2:=by omega
  ·rfl
  ·rfl
  ·rfl
 ·simp at hP;subst hP
  obtain rfl|rfl|rfl|rfl:s=0∨s=1∨s=2∨s=3:=by omega
  ·rfl
  ·rfl
  ·rfl
  ·rfl
 ·simp at hP;omega
theorem dims_last (d:List Nat) (hd:d.length≤4) (s:Nat) (hs:s < d.length):dimsT d (ntl (lastO d.length (s:Int)))=lessN d s++[d.getD s 0]:=by
 rcases d with _|⟨a,_|⟨b,_|⟨c,_|⟨e,_|⟨f,d⟩⟩⟩⟩⟩
 ·simp at hs
 ·obtain rfl:s=0:=by simp at hs;omega
  rfl
 ·obtain rfl|rfl:s=0∨s=1:=by simp at hs;omega
  ·rfl
  ·rfl
 ·obtain rfl|rfl|rfl:s=0∨s=1∨s=2:=by simp at hs;omega
  ·rfl
  ·rfl
  ·rfl
 ·obtain rfl|rfl|rfl|rfl:s=0∨s=1∨s=2∨s=3:=by simp at hs;omega
  ·rfl
  ·rfl
  ·rfl
  ·rfl
 ·simp at hd
theorem place_app (c k:Nat) (hk:k < c):∀ (r:List Nat) (i:Nat),(∀ x,x∈r→1≤x)→i < prodN r→placeN (r++[c]) (i*c+k)=placeN r i++[k]
 | [],i,_,hi=>by
  have hi:i < 1:=hi
  obtain rfl:i=0:=by omega
  show [(0*c+k) / prodN []] = [k]
  rw [show prodN []=1 from rfl,Nat.div_one,Nat.zero_mul,Nat.zero_add]
 | x :: r,i,hp,hi=>by
  have hR:1≤prodN r:=prodN_pos fun y hy=>hp y (List.mem_cons_of_mem _ hy)
  have ih:=place_app c k hk r (i % prodN r) (fun y hy=>hp y (List.mem_cons_of_mem _ hy)) (Nat.mod_lt _ hR)
  have e:prodN (r++[c])=prodN r*c:=by rw [prodN_append];simp [prodN]
  have hc:0 < c:=by omega
  simp only [List.cons_append,placeN]
  rw [e]
  have e1:(i*c+k) / (prodN r*c)=i / prodN r:=by
   rw [Nat.mul_comm (prodN r) c,← Nat.div_div_eq_div_mul,pair_div _ _ _ hk]
  have e2:(i*c+k) % (prodN r*c)=i % prodN r*c+k:=by
   rw [Nat.mul_comm (prodN r) c,Nat.mod_mul,pair_mod _ _ _ hk,pair_div _ _ _ hk,Nat.mul_comm,Nat.add_comm]
  rw [e1,e2,ih]
/-- Where the numbers of one sum stood. -/
theorem turn_last {d:List Nat} (hd:goodN d) (s:Nat) (hs:s < d.length) (i k:Nat) (hi:i < prodN (lessN d s)) (hk:k < d.getD s 0):
  turnI d (ntl (lastO d.length (s:Int))) (i*d.getD s 0+k)=(i / prodN (d.drop (s+1))*d.getD s 0+k)*prodN (d.drop (s+1))+i % prodN (d.drop (s+1)):=by
 have h1:(placeN (lessN d s) i).length+1=d.length:=by
  rw [placeN_len]
  simp only [lessN,List.length_append,List.length_take,List.length_drop]
  omega
 unfold turnI
 rw [dims_last d hd.1 s hs,place_app _ _ hk _ _ (good_less hd s hs).2.1 hi,unp_last _ _ hd.1 hs _ h1,insN_at hd s hs i k hi]
abbrev smP (d x:List Int) (side:Int):Prop:=isP d x∧0≤side∧side < (d.length:Int)
def smE (d x:List Int) (side:Int):Int:=if smP d x side then 0 else 1
def smD (d x:List Int) (side:Int):List Int:=if smP d x side then itl (lessN (ntl d) side.toNat) else []
def smV (d x:List Int) (side:Int):List Int:=if smP d x side then sumV (ntl d) side.toNat x else []
theorem sm_none {d x:List Int} {side:Int} (h:¬ smP d x side):smE d x side=1∧smD d x side = []∧smV d x side = []∧turnE d x (lastO d.length side)=1∧turnD d x (lastO d.length side) = []∧turnV d x (lastO d.length side) = []:=by
 have ht:¬ turnP d x (lastO d.length side):=fun c=>h ⟨c.1,Classical.byContradiction fun hc=>last_far _ _ hc c.2⟩
 exact ⟨if_neg h,if_neg h,if_neg h,if_neg ht,if_neg ht,if_neg ht⟩
/-- What Turn hands back where there is such a side. -/
theorem sm_turn {a:List Nat} {x:List Int} (ga:goodN a) (hx:x.length=prodN a) (s:Nat) (hs:s < a.length):
  turnE (itl a) x (lastO a.length (s:Int))=0∧turnD (itl a) x (lastO a.length (s:Int))=itl (lessN a s++[a.getD s 0])∧(turnV (itl a) x (lastO a.length (s:Int))).length=prodN a∧
   ∀ i k,i < prodN (lessN a s)→k < a.getD s 0→(turnV (itl a) x (lastO a.length (s:Int))).getD (i*a.getD s 0+k) 0=x.getD ((i / prodN (a.drop (s+1))*a.getD s 0+k)*prodN (a.drop (s+1))+i % prodN (a.drop (s+1))) 0:=by
 have hp:turnP (itl a) x (lastO a.length (s:Int)):=by
  refine ⟨⟨by rw [ntl_itl];exact ga,by rw [ntl_itl];exact hx⟩,?_⟩
  rw [itl_len]
  exact ord_last _ (by have:=ga.1;omega) s hs
 have e:∀ o,turnP (itl a) x o→turnV (itl a) x o=(List.range (prodN a)).map fun i=>x.getD (turnI a (ntl o) i) 0:=fun o h=>by
  unfold turnV
  rw [if_pos h,ntl_itl]
 refine ⟨if_pos hp,?_,?_,fun i k hi hk=>?_⟩
 ·unfold turnD
  rw [if_pos hp,ntl_itl,dims_last a ga.1 s hs]
 ·rw [e _ hp];simp
 ·have hlt:i*a.getD s 0+k < prodN a:=by
   rw [← prodN_less a s hs]
   exact pair_lt hi hk
  rw [e _ hp,getD_map_range _ _ _ _ hlt,turn_last ga s hs i k hi hk]
/-- A sum of sums of w each, as one. -/
def flatS (f:Nat→Nat→Int) (w m:Nat):Int:=sumI (fun q=>f (q / w) (q % w)) m
/-- Where the greatest of v's m + 1 numbers from b on stands first. -/
def bestK (v:List Int) (b:Nat):Nat→Nat
 | 0=>b
 | m+1=>if v.getD (bestK v b m) 0 < v.getD (b+(m+1)) 0 then b+(m+1) else bestK v b m
/-- A Row's number: c rows of l, windows of c by w, at step. -/
def convN (c l w n step:Nat) (a k:List Int) (q:Nat):Int:=rnd (flatS (fun x y=>a.getD (x*l+q % n*step+y) 0*k.getD ((q / n*c+x)*w+y) 0) w (c*w))
def convV (c l w o n step:Nat) (a k:List Int):List Int:=(List.range (o*n)).map (convN c l w n step a k)
theorem convV_len (c l w o n step:Nat) (a k:List Int):(convV c l w o n step a k).length=o*n:=by simp [convV]
/-- The greatest of each wide numbers: where they stand, and they. -/
def poolP (l n wide:Nat) (v:List Int) (q:Nat):Nat:=bestK v (q / n*l+q % n*wide) (wide - 1)
def poolV (c l n wide:Nat) (v:List Int):List Int:=(List.range (c*n)).map fun q=>v.getD (poolP l n wide v q) 0
theorem poolV_len (c l n wide:Nat) (v:List Int):(poolV c l n wide v).length=c*n:=by simp [poolV]
/-- How many stops. -/
def stopsN (L wd st:Nat):Nat:=(L - wd) / st+1
/-- A slide's numbers, in a block. -/
def SlC (W:World) (b R L O wd st:Nat):Prop:=
 W.cell? ⟨b,0,none⟩=some (.int .i64 (R:Int))∧W.cell? ⟨b,1,none⟩=some (.int .i64 (L:Int))∧W.cell? ⟨b,2,none⟩=some (.int .i64 (O:Int))∧W.cell? ⟨b,3,none⟩=some (.int .i64 (wd:Int))∧W.cell? ⟨b,4,none⟩=some (.int .i64 (st:Int))
theorem SlC.stay {W W':World} {g b R L O wd st:Nat} (h:SlC W b R L O wd st) (hs:Stay g W W') (hg:b≠g):SlC W' b R L O wd st:=
 ⟨hs.cell h.1 hg,hs.cell h.2.1 hg,hs.cell h.2.2.1 hg,hs.cell h.2.2.2.1 hg,hs.cell h.2.2.2.2 hg⟩
theorem LieA.stay {W W':World} {g b o:Nat} {x:Int} (h:LieA W b o x) (hs:Stay g W W') (hg:b≠g):LieA W' b o x:=
 ⟨Nat.lt_of_lt_of_le h.1 hs.size,hs.cell h.2.1 hg,hs.cell h.2.2.1 hg,by rw [hs.frozen h.1 hg];exact h.2.2.2.1,by rw [hs.frozen h.1 hg];exact h.2.2.2.2⟩
theorem SumAt.stay {W W':World} {g b o m:Nat} {T:Int} (h:SumAt W b o m T) (hs:Stay g W W') (hg:b≠g):SumAt W' b o m T:=by
 obtain ⟨A,B,e,h1,h2,h3,h4,h5,h6⟩:=h
 exact ⟨A,B,e,h1,h2,h3,h4,h5.stay hs hg,h6.stay hs hg⟩
/-- The tensor of the sums. -/
def gatE (d:List Int):Int:=if goodN (ntl d) then 0 else 2
/-- What such a function value reads: the sums' slice in gb, two tensors' numbers by way of ga and gk; the sums lie in b. -/
def Mt (W:World) (b gb ga gk N:Nat) (pa:Option Addr) (na ca:Nat) (pk:Option Addr) (nk ck:Nat) (x y:List Int):Prop:=
 W.cell? ⟨gb,0,none⟩=some (.slice (some ⟨b,0,none⟩) N N)∧W.cell? ⟨ga,1,none⟩=some (.slice pa na ca)∧W.cell? ⟨gk,1,none⟩=some (.slice pk nk ck)∧Nums .i64 W (.slice pa na ca) x∧Nums .i64 W (.slice pk nk ck) y∧(gb≠b∧ga≠b∧gk≠b)∧Off b (.slice pa na ca)∧Off b (.slice pk nk ck)
theorem Mt.stay {W W':World} {b gb ga gk N:Nat} {pa:Option Addr} {na ca:Nat} {pk:Option Addr} {nk ck:Nat} {x y:List Int} (h:Mt W b gb ga gk N pa na ca pk nk ck x y) (hS:Stay b W W'):Mt W' b gb ga gk N pa na ca pk nk ck x y:=
 ⟨hS.cell h.1 h.2.2.2.2.2.1.1,hS.cell h.2.1 h.2.2.2.2.2.1.2.1,hS.cell h.2.2.1 h.2.2.2.2.2.1.2.2,h.2.2.2.1.stay hS h.2.2.2.2.2.2.1,h.2.2.2.2.1.stay hS h.2.2.2.2.2.2.2,h.2.2.2.2.2⟩
/-- Row: what the document says. -/
abbrev rwA (d x d' y:List Int) (st:Int):Prop:=isP d x∧isP d' y∧1≤st∧st≤64
abbrev rwS (d d':List Int):Prop:=d.length=2∧d'.length=3∧d.getD 0 0=d'.getD 1 0∧d'.getD 2 0≤d.getD 1 0
def rwO (d d':List Int) (st:Int):List Int:=[d'.getD 0 0,((stopsN (d.getD 1 0).toNat (d'.getD 2 0).toNat st.toNat:Nat):Int)]
def rwE (d x d' y:List Int) (st:Int):Int:=if rwA d x d' y st then if rwS d d' then gatE (rwO d d' st) else 4 else 1
def rwD (d x d' y:List Int) (st:Int):List Int:=if rwA d x d' y st∧rwS d d' then newD (rwO d d' st) else []
def rwV (d x d' y:List Int) (st:Int):List Int:=if rwA d x d' y st∧rwS d d' then if goodN (ntl (rwO d d' st)) then convV (d.getD 0 0).toNat (d.getD 1 0).toNat (d'.getD 2 0).toNat (d'.getD 0 0).toNat (stopsN (d.getD 1 0).toNat (d'.getD 2 0).toNat st.toNat) st.toNat x y else [] else []
end Go.Proofs.YtihjnbbhpojnpaaGreatDoor.Wd
