/- The code's plans: planOf. · The code's play: the steps of a plan, one after the other. · The code's Run. · The code's Parse. · The contracts of the library functions that the program calls, stated at this program's own numbers: each is one application of a theorem of the kit's library. -/
import Derived.Test.YtiampagapgjedaaGreatDoorP27
import Derived.Maps.AppendAt
import Derived.Test.YtiampagapgjedaaGreatDoorP22
import Derived.Shelf.Strings.Builder1
import Derived.Shelf.Strings.Builder2
import Derived.Shelf.Strings.OnBuilder
import Derived.Shelf.Small.Bits
import Derived.Shelf.Strings.BuilderF
import Derived.Shelf.Strconv.Itoa0
import Derived.Shelf.Strconv.Itoa1
import Derived.Shelf.LaysM
import Derived.Shelf.Strconv.Itoa2
import Derived.Shelf.Strconv.Itoa3
import Derived.Shelf.Bits.Mul64
import Derived.Shelf.Strings.FieldsFuncAny
import Derived.Shelf.Slices.Equal
import Derived.Ground.Names2Prog
import Derived.Shelf.Slices.Clone
import Derived.Shelf.Slices.Empties2
import Derived.Test.YtiampagapgjedaaGreatDoorProg
set_option linter.unusedVariables false
set_option linter.unusedSimpArgs false
set_option maxHeartbeats 16000000
set_option maxRecDepth 16000
namespace Go.Proofs.YtiampagapgjedaaGreatDoor.Wd
open Go.RowKit
/-- The plan of the first i layers: its steps, the parameters that are left, what went in, what comes out. -/
def plF (d:List Int) (ls:List Ly) (S:List (List Int)) (P X:List Int):Nat→List Sp×List Int×Int×Int
 | 0=>([⟨1,0,0,0,d,X,false⟩],P,0,0)
 | i+1=>((plF d ls S P X i).1++layS (lyA ls i) (shA S i) (plF d ls S P X i).1.length (plF d ls S P X i).2.1 (plF d ls S P X i).2.2.1 (plF d ls S P X i).2.2.2,layR (lyA ls i) (shA S i) (plF d ls S P X i).2.1,(plF d ls S P X i).2.2.2,(layN (lyA ls i) (shA S i) (plF d ls S P X i).1.length:Int))
theorem prS_few (PP:List (List Int)) (rest:List Int):∀ j,(prS PP rest j).1.length=j
 | 0=>rfl
 | j+1=>by simp [prS,prS_few PP rest j]
theorem layS_few (l:Ly) (d:List Int) (N:Nat) (rest:List Int) (bf last:Int):(layS l d N rest bf last).length≤6:=by
 unfold layS
 rw [List.length_append,prS_few]
 have:=parD_len l d
 have h2:kindI l.1≠0→(parD l d).length≤1:=fun h=>by unfold parD;rw [if_neg h];split <;> simp
 by_cases h0:kindI l.1=0
 ·rw [if_pos h0];unfold denS;split <;> simp <;> omega
 ·have:=h2 h0
  rw [if_neg h0]
  split
  ·simp;omega
  ·split
   ·simp;omega
   ·split <;> simp <;> omega
theorem plF_few (d:List Int) (ls:List Ly) (S:List (List Int)) (P X:List Int):∀ i,(plF d ls S P X i).1.length≤1+6*i
 | 0=>by simp [plF]
 | i+1=>by
  have:=plF_few d ls S P X i
  have h2:=layS_few (lyA ls i) (shA S i) (plF d ls S P X i).1.length (plF d ls S P X i).2.1 (plF d ls S P X i).2.2.1 (plF d ls S P X i).2.2.2
  simp only [plF,List.length_append]
  omega
theorem prod_par {l:Ly} {d:List Int} (hl:LayOk l) (hd:InOk d):∀ i,i < (parD l d).length→0≤prodI (shA (parD l d) i):=fun i hi=>by
 have hp:=hd.prod
 unfold parD at hi ⊢
 rcases layOk_cases hl with ⟨-,k,g1,g2⟩|⟨-,k,g1,g2⟩|⟨-,k,g1,g2⟩|⟨-,k,g1,g2⟩|⟨-,k,g1,g2⟩ <;> rw [k] at hi ⊢ <;> simp at hi
 ·have:=mprod_rng g1 hp
  rcases (show i=0∨i=1 by omega) with rfl|rfl <;> simp [shA,prodI_two,prodI_one] <;> omega
 ·subst hi
  have h0:0≤d.getD 0 0:=by rcases hd with ⟨x,rfl,h⟩|⟨x,y,rfl,hx,hy⟩ <;> simp <;> omega
  simp only [if_neg (show ¬ (1:Nat)=0 by omega),if_true]
  show 0≤prodI [l.2.1,d.getD 0 0,l.2.2]
  rw [prodI_three]
  exact Int.mul_nonneg (Int.mul_nonneg (by omega) h0) (by omega)
theorem sum_le {l:Ly} {d:List Int} (hl:LayOk l) (hd:InOk d):∀ k i,i+k=(parD l d).length→sumP (parD l d) i≤sumP (parD l d) (parD l d).length
 | 0,i,hi=>by rw [show i=(parD l d).length by omega];exact Int.le_refl _
 | k+1,i,hi=>by
  have h5:=sum_le hl hd k (i+1) (by omega)
  have h6:=prod_par hl hd i (by omega)
  simp only [sumP] at h5
  omega
theorem layR_len {l:Ly} {d:List Int} (hl:LayOk l) (hd:InOk d) {rest:List Int} (h:psz l d≤(rest.length:Int)):((layR l d rest).length:Int)=(rest.length:Int) - psz l d:=by
 unfold layR
 rw [← sumP_psz] at h ⊢
 exact (prS_len (PP:=parD l d) (rest:=rest) _ (prod_par hl hd) (fun i hi=>Int.le_trans (sum_le hl hd ((parD l d).length - i) i (by omega)) h)).1
theorem cntP_le {d:List Int} {ls:List Ly} {S:List (List Int)} (ok:NetOk d ls S):∀ i,i≤ls.length→cntP ls S i≤cntP ls S ls.length:=by
 have key:∀ k i,i+k=ls.length→cntP ls S i≤cntP ls S ls.length:=by
  intro k
  induction k with
  | zero=>intro i hi;rw [show i=ls.length by omega];exact Int.le_refl _
  | succ k ih=>
   intro i hi
   have h1:=ih (i+1) (by omega)
   have h2:=psz_rng (ok.inn i (by omega)) (ok.lay i (by omega))
   simp only [cntP] at h1
   omega
 exact fun i hi=>key (ls.length - i) i (by omega)
theorem plF_rest {d:List Int} {ls:List Ly} {S:List (List Int)} {P X:List Int} (ok:NetOk d ls S) (hP:(P.length:Int)=cntP ls S ls.length):∀ i,i≤ls.length→((plF d ls S P X i).2.1.length:Int)=(P.length:Int) - cntP ls S i∧(i < ls.length→psz (lyA ls i) (shA S i)≤((plF d ls S P X i).2.1.length:Int))
 | 0,_=>by
  refine ⟨by simp [plF,cntP],fun h=>?_⟩
  have key:=cntP_le ok 1 (by omega)
  simp only [cntP] at key
  simp only [plF]
  omega
 | i+1,hi=>by
  obtain ⟨h1,h2⟩:=plF_rest (X:=X) ok hP i (by omega)
  have h3:=h2 (by omega)
  have h4:=layR_len (ok.lay i (by omega)) (ok.inn i (by omega)) h3
  have e:((plF d ls S P X (i+1)).2.1.length:Int)=(P.length:Int) - cntP ls S (i+1):=by
   simp only [plF,cntP]
   omega
  refine ⟨e,fun h=>?_⟩
  have key:=cntP_le ok (i+1+1) (by omega)
  rw [e]
  simp only [cntP] at key ⊢
  omega
theorem planOf_any (B:Nat) (d:List Int) (ls:List Ly) (S:List (List Int)) (ok:NetOk d ls S) (h16:ls.length≤16) (P X:List Int) (hPl:(P.length:Int)=cntP ls S ls.length) (hPb:P.length≤1073741824) (p p2 ps pp px:Option Addr) (n c n2 c2 ns cs np cp nx cx:Nat) (w:World) (hB:B≤w.heap.size) (hIn:Kept B w (.slice p n c) d) (hLy:∀ W',Rn B w W'→LyR 0 W' p2 n2 ls) (hSh:OwnS w 0 (.slice ps ns cs) S) (hns:S.length=ns) (hp:Kept B w (.slice pp np cp) P) (hpc:np≤cp) (hx:Kept B w (.slice px nx cx) X):
  Calls Tryz.prog 45 #[.agg #[.slice p n c,.slice p2 n2 c2],.slice ps ns cs,.slice pp np cp,.slice px nx cx] w fun e w'=>∃ q m r xs,e = .returned (.slice q m r)∧(plF d ls S P X ls.length).1.length=m∧w'.ownsRow B 137 7 (.slice q m r) m xs∧StsC B w' (plF d ls S P X ls.length).1 xs∧Rn B w w':=by
 haveI:Nonempty World:=⟨w⟩
 obtain ⟨F,eF⟩:∃ F,plF d ls S P X=F:=⟨_,rfl⟩
 have hfew:=plF_few d ls S P X
 have hrest:=plF_rest (P:=P) (X:=X) ok hPl
 have h0:F 0=([⟨1,0,0,0,d,X,false⟩],P,0,0):=by rw [← eF];rfl
 have hs:∀ i,F (i+1)=((F i).1++layS (lyA ls i) (shA S i) (F i).1.length (F i).2.1 (F i).2.2.1 (F i).2.2.2,layR (lyA ls i) (shA S i) (F i).2.1,(F i).2.2.2,(layN (lyA ls i) (shA S i) (F i).1.length:Int)):=fun i=>by rw [← eF];rfl
 rw [eF] at hfew hrest ⊢
 have HF:Hid (F 0=([⟨1,0,0,0,d,X,false⟩],P,0,0)∧(∀ i,F (i+1)=((F i).1++layS (lyA ls i) (shA S i) (F i).1.length (F i).2.1 (F i).2.2.1 (F i).2.2.2,layR (lyA ls i) (shA S i) (F i).2.1,(F i).2.2.2,(layN (lyA ls i) (shA S i) (F i).1.length:Int)))∧(∀ i,(F i).1.length≤1+6*i)∧(∀ i,i≤ls.length→((F i).2.1.length:Int)=(P.length:Int) - cntP ls S i∧(i < ls.length→psz (lyA ls i) (shA S i)≤((F i).2.1.length:Int)))):=⟨h0,hs,hfew,hrest⟩
 have hnp:P.length=np:=by
  obtain ⟨_,_,_,e,h⟩:=hp.nums.lst
  cases e
  exact h.out.1
 have hn2:ls.length=n2:=(hLy w (Rn.refl _ _)).1
 have HK:Hid (NetOk d ls S∧ls.length≤16∧Kept B w (.slice p n c) d∧(∀ W',Rn B w W'→LyR 0 W' p2 n2 ls)∧Kept B w (.slice pp np cp) P∧np≤cp∧Kept B w (.slice px nx cx) X∧P.length≤1073741824∧P.length=np∧ls.length=n2):=⟨ok,h16,hIn,hLy,hp,hpc,hx,hPb,hnp,hn2⟩
 have HSH:Hid (∀ j,j < ns→∃ q o a b d,ps=some ⟨q,o,none⟩∧(∀ W',Rn B w W'→W'.cell? ⟨q,o+j,none⟩=some (.slice a b d))∧Kept B w (.slice a b d) (shA S j)):=OwnS.dims hSh hns
 have hnsl:ns=n2+1:=by rw [← hns,ok.len,hn2]
 subst hnsl
 have h16':n2≤16:=by omega
 clear eF h0 hs hfew hrest hIn hLy hSh hns hp hpc hx hPb hPl ok h16 hnp hn2
 go_enter Tryz.func45,Tryz.ntmps45
 go_wp2_with fail
 generalize hW0:World.alloc _ _=W0
 have hz0:W0.heap.size=w.heap.size+2:=by rw [← hW0];simp
 have hB0:Below w.heap.size w W0:=by rw [← hW0];go_grown
 have hR0:Rn B w W0:=Rn.of hB hB0
 have HX0:Hid (W0.heap[w.heap.size]?=some (.cells #[.slice p n c,.slice p2 n2 c2] 26 (0,0))∧W0.heap[w.heap.size+1]?=some (.cells #[.slice none 0 0,.slice pp np cp] 134 (0,0))):=by
  show _∧_
  rw [← hW0]
  refine ⟨((up_alloc _ _).block _ (by simp)).trans Array.getElem?_push_size,?_⟩
  rw [show w.heap.size+1=(w.alloc (.cells #[.slice p n c,.slice p2 n2 c2] 26)).heap.size by simp]
  exact Array.getElem?_push_size
 have HP0:Hid (PlanO B W0 W0 (w.heap.size+1) [] P∧Rn B w W0):=⟨⟨by omega,Rn.refl _ _,_,_,_,_,_,_,[],HX0.out.2,⟨rfl,.inl ⟨rfl,rfl⟩⟩,rfl,StsC.nil _ _,HK.out.2.2.2.2.1.up hR0,HK.out.2.2.2.2.2.1,HK.out.2.2.2.2.2.2.2.2.1⟩,hR0⟩
 clear hW0 hB0 hR0
 refine (padd_any B (w.heap.size+1) [] P (by simp) ⟨1,0,0,0,d,X,false⟩ p n c px nx cx W0 W0 HP0.out.1 (HK.out.2.2.1.up HP0.out.2) (HK.out.2.2.2.2.2.2.1.up HP0.out.2)).mono ?_
 rintro e w1 ⟨rfl,hP1,hR1⟩
 have HI1:Hid (PlanO B w1 w1 (w.heap.size+1) (F 0).1 (F 0).2.1∧Rn B W0 w1):=by
  rw [HF.out.1]
  exact ⟨hP1.on,hR1⟩
 have HX1:Hid (w1.heap[w.heap.size]?=some (.cells #[.slice p n c,.slice p2 n2 c2] 26 (0,0))):=hR1.block HX0.out.1 (by decide)
 obtain ⟨_,⟨g1,_⟩⟩:=box_2 HX1.out
 clear hP1 hR1
 go_wp2_with fail
 go_loopg [10,11,27] n2 (fun gg u u2 v wr=>∃ (k:Nat),k≤n2∧gg=n2 - k∧u = .int .i64 (F k).2.2.1∧u2 = .int .i64 (F k).2.2.2∧v = .int .i64 (k:Int)∧Hid (PlanO B wr wr (w.heap.size+1) (F k).1 (F k).2.1∧Rn B w wr))
 case atStart=>exact ⟨0,by omega,by omega,by rw [HF.out.1],by rw [HF.out.1],rfl,HI1.out.1,HP0.out.2.trans HI1.out.2⟩
 case round=>
  obtain ⟨k,hk,hg,rfl,rfl,rfl,HI⟩:=hrel
  by_cases hkn:k < n2
  ·have hk':(k:Int) < (n2:Int):=by omega
   have hk1:(k:Int) < ((n2+1:Nat):Int):=by omega
   have hkl:k < ls.length:=by rw [HK.out.2.2.2.2.2.2.2.2.2];exact hkn
   obtain ⟨q,o,rfl,y0,y1,y2⟩:=(HK.out.2.2.2.1 wr HI.out.2).2 k hkn
   obtain ⟨q3,o3,a3,b3,d3,rfl,hc3,hk3⟩:=HSH.out k (by omega)
   have s3:=hc3 wr HI.out.2
   have hs1:=HF.out.2.1 k
   have hs2:=HF.out.2.2.1 k
   have hs3:=HF.out.2.2.2 k (by omega)
   obtain ⟨l,el⟩:∃ l,lyA ls k=l:=⟨_,rfl⟩
   have hlo:=HK.out.1.lay k hkl
   have hft:=HK.out.1.fit k hkl
   have hin:=HK.out.1.inn k hkl
   rw [el] at y0 y1 y2 hlo hft hs1 hs3
   obtain ⟨s,a,b⟩:=l
   simp only [] at y0 y1 y2 hft
   obtain ⟨N,eN⟩:∃ N,(F k).1.length=N:=⟨_,rfl⟩
   obtain ⟨bf,ebf⟩:∃ x,(F k).2.2.1=x:=⟨_,rfl⟩
   obtain ⟨la,ela⟩:∃ x,(F k).2.2.2=x:=⟨_,rfl⟩
   rw [eN,ebf,ela] at hs1
   rw [eN] at hs2
   rw [ebf,ela]
   have cL:Hid (∀ W,Below wr.heap.size wr W→Calls Tryz.prog 77 #[.pointer (some ⟨w.heap.size+1,0,none⟩),.agg #[.string s,.int .i64 a,.int .i64 b],.slice a3 b3 d3,.int .i64 bf,.int .i64 la] W fun e w'=>e = .returned (.int .i64 (F (k+1)).2.2.2)∧PlanO B w' w' (w.heap.size+1) (F (k+1)).1 (F (k+1)).2.1∧Rn B W w'):=fun W hW=>by
    have hR:Rn B w W:=HI.out.2.trans (Rn.of HI.out.1.size hW)
    have:=layer_any B (w.heap.size+1) N (F k).1 (F k).2.1 eN (by omega) s a b hlo (shA S k) hin hft (hs3.2 hkl) (by have h7:=hs3.1;have h8:=cntP_rng (ls:=ls) (S:=S) (i:=k) (fun j hj=>HK.out.1.inn j (by omega)) (fun j hj=>HK.out.1.lay j (by omega));have h9:=HK.out.2.2.2.2.2.2.2.1;omega) a3 b3 d3 bf la W (HI.out.1.up hW).on (hk3.up hR)
    rw [hs1]
    exact this
   have HS1:Hid ((F (k+1)).2.2.1=la):=by show _=_;rw [hs1]
   have hlt:=cell_size y0
   have hz3:=cell_size s3
   clear hs1 hs2 hs3 hlo hft hin hc3 hk3 el eN ebf ela
   go_wp2
   generalize hW2:World.alloc _ _=W2
   have HB2:Hid (Below wr.heap.size wr W2):=by rw [← hW2];exact up_alloc wr _
   obtain ⟨e0,e1,e2⟩:W2.cell? ⟨wr.heap.size,0,none⟩=some (.string s)∧W2.cell? ⟨wr.heap.size,1,none⟩=some (.int .i64 a)∧W2.cell? ⟨wr.heap.size,2,none⟩=some (.int .i64 b):=by rw [← hW2];simp [go_sem]
   replace s3:=still_cell HB2.out s3
   have hz4:=cell_size e0
   have hz5:=cell_size s3
   clear hW2 y0 y1 y2
   refine relE [] 9 47 (by kernel_rfl) rfl rfl 0 _ rfl (by decide) rfl (by kernel_rfl) (by kernel_rfl) (fun _ _ _ _ h=>h) (by rfl) ?_ ?_
   ·intro e he;simp at he
   apply Exists.intro
   refine ⟨?yl1,?wk1,?pk1,?rest1⟩
   case wk1=>
    intro x
    simp only [List.take_succ_cons,List.take_zero]
    iterate 9
     refine relQuiet rfl rfl ?_
     apply Exists.intro
     refine ⟨fun F hF hf K hK=>?_,?_⟩
     ·have hFc:=hF.cell
      have hFf:=hF.frozen
      go_big_quiet_op
      first|exact hK|(apply Exists.intro;refine ⟨fun _=>?_,?_⟩;(· fail);exact hK)
     (try simp only [Act.put,List.setIfInBounds_toArray,List.set_cons_zero,List.set_cons_succ])
    refine relEnd ?_
    exact rfl
   case pk1=>
    intro x
    simp only [putsK,List.foldl_cons,List.foldl_nil,Act.put,List.setIfInBounds_toArray,List.set_cons_zero,List.set_cons_succ]
   case yl1=>
    intro x hx
    have e9:True:=trivial
    refine ⟨.int .i64 la,fun t ht=>?_,.inl ⟨by rfl,fun w=>?_⟩⟩
    ·cases ht
     rfl
    ·simp [execOp,Act.eval,e9,go_sem]
   intro w9 xs hB9 hf
   simp only [List.drop_succ_cons,List.drop_zero]
   have HB9:Hid (Below wr.heap.size wr w9):=bstep HB2.out hB9
   clear hf hB9 e0 e1 e2 s3 hz5
   go_wp2_with fail
   refine (cL.out w9 HB9.out).mono ?_
   rintro e w2 ⟨rfl,hP2,hR2⟩
   have HI2:Hid (PlanO B w2 w2 (w.heap.size+1) (F (k+1)).1 (F (k+1)).2.1∧Rn B w w2):=⟨hP2,(HI.out.2.trans (Rn.of HI.out.1.size HB9.out)).trans hR2⟩
   clear hP2 hR2 cL HI HB9 HB2
   go_wp2
   go_roundg (n2 - (k+1))
   case measure=>omega
   case rel=>exact ⟨k+1,by omega,rfl,by rw [HS1.out],rfl,by first|rfl|simp,HI2⟩
  ·obtain rfl:k=n2:=by omega
   have hl2:=HK.out.2.2.2.2.2.2.2.2.2
   obtain ⟨hb,hr,q,m,r,pR,nR,cR,xs,h1,h3,h4,h5,_⟩:=HI.out.1
   obtain ⟨⟨x0,_⟩,_⟩:=box_2 h1
   have HE:Hid ((F ls.length).1.length=m∧wr.ownsRow B 137 7 (.slice q m r) m xs∧StsC B wr (F ls.length).1 xs∧Rn B w wr):=by
    rw [hl2]
    exact ⟨h4,by rw [h4] at h3;exact h3,h5,HI.out.2⟩
   clear hb hr h1 h3 h4 h5 hl2
   go_wp2
   go_ret
   exact ⟨_,_,_,_,rfl,HE.out⟩
end Go.Proofs.YtiampagapgjedaaGreatDoor.Wd
namespace Go.Proofs.YtiampagapgjedaaGreatDoor.Wd
open Go.RowKit Fx
def spA (sts:List Sp) (i:Nat):Sp:=sts.getD i ⟨1,0,0,0,[],[],false⟩
/-- The first i steps: an error, the nodes, the last node, the parameters' nodes. -/
def pyF (f:Int) (sts:List Sp) (ns:List Nd):Nat→Int×List Nd×Int×List Int
 | 0=>(0,ns,0,[])
 | i+1=>if (pyF f sts ns i).1=0 then (stE f (pyF f sts ns i).2.1 (spA sts i),stN f (pyF f sts ns i).2.1 (spA sts i),stR f (pyF f sts ns i).2.1 (spA sts i),if (spA sts i).par=true then (pyF f sts ns i).2.2.2++[stR f (pyF f sts ns i).2.1 (spA sts i)] else (pyF f sts ns i).2.2.2) else pyF f sts ns i
theorem wpList_appA {P:Program} {t e:TypeId} {s b:Nat} (T:GT P t e s b) (hb:b≤256) (hs0:0 < s) {ops:Array Oper} {rest:List Oper} {o:Oper} {a:Act} {Q:Exit→Act→World→Prop} {w:World} (hgd:o.guard=none) (sx x:Operand)
  (ho:o.op = .call { callee:=.builtin .append,args:=#[sx,x],argTypes:=#[t,t] }) (B:Nat) (v:Value) (n:Nat) (xs:List Value) (hs:a.eval sx=v) (hown:w.ownsRow B e s v n xs) (g:Nat) (u:List Value) (hx:a.eval x = .slice (some ⟨g,0,none⟩) 1 1)
  (hg:w.heap[g]?=some (.cells u.toArray e (0,0))) (hu:u.length=s) (h1:∀ y∈u,y.oneCell'=true) (hn:n+1≤1073741825) (hB:B≤w.heap.size)
  (h:∀ v' w',Hid (w'.ownsRow B e s v' (n+1) (xs++u))→Hid (w.grownBy w' v.ownBlock)→Hid (v'.ownBlock=v.ownBlock∨v'.ownBlock=some w.heap.size)→wpList P ops Q rest (a.put o.dst v') w'):wpList P ops Q (o :: rest) a w:=by
 have hi:=T.hi
 cases hq:P.info? e with
 | none=>rw [hq] at hi;cases hi
 | some i=>
  rw [hq] at hi
  simp only [Option.map_some,Option.some.injEq,Prod.mk.injEq] at hi
  obtain ⟨hz,hsz,hby⟩:=hi
  cases hz0:i.zero with
  | none=>rw [hz0] at hz;cases hz
  | some z=>
   rw [hz0] at hz
   simp only [Option.map_some,Option.some.injEq] at hz
   have hm:(n+1)*b≤1073741825*256:=Nat.mul_le_mul hn hb
   exact wpList_append_own_at w hgd sx x t ho B e i z s b T.ht hq hz0 hsz hby hz hs0 v n xs hs hown ⟨g,0,none⟩ 1 1 u hx (by omega) (fun j y hj=>by
    rw [addr_plus,Nat.zero_add]
    unfold World.cell?
    simpa [hg] using hj) h1 (by unfold maxLen;omega) (by omega) hB (fun v' w' h2 h3 _ h5=>h v' w' h2 h3 h5)
theorem stpN {B n c:Nat} {W W':World} {p:Option Addr} {sts:List Sp} {xs:List Value} {Bs m:Nat} (ho:W'.ownsRow Bs 137 7 (.slice p m c) m xs) (hc:StsC B W sts xs) (hm:sts.length=m) (i:Nat) (hi:i < m):
  ∃ q s1 n1 c1 s2 n2 c2,p=some ⟨q,0,none⟩∧W'.cell? ⟨q,i*7,none⟩=some (.int .i64 (spA sts i).op)∧W'.cell? ⟨q,i*7+1,none⟩=some (.int .i64 (spA sts i).a)∧W'.cell? ⟨q,i*7+2,none⟩=some (.int .i64 (spA sts i).b)∧W'.cell? ⟨q,i*7+3,none⟩=some (.int .i64 (spA sts i).k)∧W'.cell? ⟨q,i*7+4,none⟩=some (.slice s1 n1 c1)∧W'.cell? ⟨q,i*7+5,none⟩=some (.slice s2 n2 c2)∧W'.cell? ⟨q,i*7+6,none⟩=some (.bool (spA sts i).par)∧Kept B W (.slice s1 n1 c1) (spA sts i).D∧Kept B W (.slice s2 n2 c2) (spA sts i).X:=by
 have hnd:sts[i]?=some (spA sts i):=by
  unfold spA
  rw [List.getD_eq_getElem?_getD,List.getElem?_eq_getElem (by omega)]
  rfl
 obtain ⟨s1,n1,c1,s2,n2,c2,e,h1,h2⟩:=hc.2 i _ hnd
 have hx:∀ j u,((xs.drop (i*7)).take 7)[j]?=some u→xs[i*7+j]?=some u:=fun j u h=>by
  rw [List.getElem?_take] at h
  split at h
  ·rw [List.getElem?_drop] at h
   exact h
  ·cases h
 rw [e] at hx
 rcases ho.2 with ⟨h0,h1⟩|⟨g,cap,cur,hv,hb,hg,rest⟩
 ·omega
 ·cases hv
  have hc:∀ j u,xs[j]?=some u→W'.cell? ⟨g,j,none⟩=some u:=fun j u h=>by
   have:=ho.cells (g:=g) rfl j u h
   rw [addr_plus,Nat.zero_add] at this
   exact this
  exact ⟨g,s1,n1,c1,s2,n2,c2,rfl,hc _ _ (hx 0 _ rfl),hc _ _ (hx 1 _ rfl),hc _ _ (hx 2 _ rfl),hc _ _ (hx 3 _ rfl),hc _ _ (hx 4 _ rfl),hc _ _ (hx 5 _ rfl),hc _ _ (hx 6 _ rfl),h1,h2⟩
theorem pyF_stop (f:Int) (sts:List Sp) (ns:List Nd) (i:Nat) (h:(pyF f sts ns i).1≠0):∀ k,pyF f sts ns (i+k)=pyF f sts ns i
 | 0=>rfl
 | k+1=>by
  have e:=pyF_stop f sts ns i h k
  show (if (pyF f sts ns (i+k)).1=0 then _ else pyF f sts ns (i+k))=_
  rw [e,if_neg h]
theorem pyF_par (f:Int) (sts:List Sp) (ns:List Nd):∀ i,(pyF f sts ns i).2.2.2.length≤i
 | 0=>by simp [pyF]
 | i+1=>by
  have:=pyF_par f sts ns i
  unfold pyF
  split
  ·dsimp only
   split
   ·rw [List.length_append];simp;omega
   ·omega
  ·omega
theorem NodesG.st {f:Int} {ns:List Nd} {st:Sp} (h:NodesG ns) (hx:RI st.X):NodesG (stN f ns st):=by
 unfold stN
 split
 ·exact h.leaf hx
 ·exact h.do
/-- The parameters' row, and that no node lies there. -/
structure PrO (w:World) (B tb:Nat) (ps:List Int) (v:Value) (W:World):Prop where
 own:OwnK .i64 3 W w.heap.size v ps
 off:∀ x,v.ownBlock=some x→AvT x W tb
theorem PrO.nil (w:World) (B tb:Nat) (W:World):PrO w B tb [] (.slice none 0 0) W:=⟨OwnK.nil _ _ _ _,fun x h=>by cases h⟩
theorem PrO.lt {w:World} {B tb:Nat} {ps:List Int} {v:Value} {W:World} (h:PrO w B tb ps v W):∀ x,v.ownBlock=some x→w.heap.size≤x∧x < W.heap.size:=fun x hx=>World.ownsRow.lt h.own x hx
theorem PrO.tape {w:World} {B tb:Nat} {ps:List Int} {v:Value} {W W':World} (h:PrO w B tb ps v W) (ho:Only SC W W') (hs:Spar2 tb W W'):PrO w B tb ps v W':=⟨h.own.only ho (by decide),fun x hx=>hs.2 x (h.lt x hx).2 (h.off x hx)⟩
theorem PrO.up {w:World} {B tb:Nat} {ps:List Int} {v:Value} {W W':World} (h:PrO w B tb ps v W) (hB:Below W.heap.size W W'):PrO w B tb ps v W':=⟨h.own.up hB,fun x hx=>(h.off x hx).up hB⟩
theorem grown_none {a b:World} (h:a.grownBy b none):Below a.heap.size a b:=⟨h.os,h.tape,h.output,h.size,fun k hk=>h.block k hk (fun e=>by cases e)⟩
theorem PrO.grow {w:World} {B tb:Nat} {ps:List Int} {ns:List Nd} {v v':Value} {x:Int} {W W':World} (h:PrO w B tb ps v W) (hT:TapC W B tb ns) (ho:W'.ownsRow w.heap.size 3 1 v' (ps.length+1) (vals .i64 ps++[.int .i64 x])) (hg:W.grownBy W' v.ownBlock) (hat:v'.ownBlock=v.ownBlock∨v'.ownBlock=some W.heap.size):PrO w B tb (ps++[x]) v' W'∧TapC W' B tb ns∧(∀ w0,Below B w0 W→Only SC w0 W→w0.heap.size≤w.heap.size→B≤w.heap.size→Below B w0 W'∧Only SC w0 W'):=by
 have hown:OwnK .i64 3 W' w.heap.size v' (ps++[x]):=by
  unfold OwnK
  rw [List.length_append]
  unfold vals at *
  rw [List.map_append]
  exact ho
 have hlow:∀ w0,Below B w0 W→Only SC w0 W→w0.heap.size≤w.heap.size→B≤w.heap.size→Below B w0 W'∧Only SC w0 W':=fun w0 hB0 hO0 hz hBz=>by
  refine ⟨Below.grown hB0 hg ?_ fun k hk=>Nat.le_trans hBz (h.lt k hk).1,Nat.le_trans hO0.1 hg.size,fun k hk hp=>?_⟩
  ·obtain ⟨hb,_,_,hv,_⟩:=hT
   exact Nat.le_trans hb (Nat.le_of_lt (heap_lt hv))
  ·rw [hg.block k (Nat.lt_of_lt_of_le hk hO0.1) (fun e=>by have:=(h.lt k e.symm).1;omega)]
   exact hO0.2 k hk hp
 cases hb:v.ownBlock with
 | none=>
  rw [hb] at hg hat
  have hB:=grown_none hg
  refine ⟨⟨hown,fun y hy=>?_⟩,hT.up hB,hlow⟩
  rcases hat with h1|h1
  ·rw [h1] at hy;cases hy
  ·rw [h1] at hy
   cases hy
   exact (hT.av (Nat.le_refl _)).up hB
 | some r=>
  rw [hb] at hg hat
  obtain ⟨cs,fz,hr⟩:∃ cs fz,W.heap[r]?=some (.cells cs 3 fz):=by
   rcases h.own.2 with ⟨rfl,_⟩|⟨g,cap,cur,rfl,_,hc,_⟩
   ·cases hb
   ·cases hb
    exact ⟨_,_,hc⟩
  refine ⟨⟨hown,fun y hy=>?_⟩,hT.beside hg hr (h.off r hb),hlow⟩
  rcases hat with h1|h1
  ·rw [h1] at hy
   cases hy
   exact (h.off r hb).beside hT hg hr
  ·rw [h1] at hy
   cases hy
   exact (hT.av (Nat.le_refl _)).beside hT hg hr
theorem play_any (B tb:Nat) (ns:List Nd) (hG:NodesG ns) (sts:List Sp) (hok:∀ i,i < sts.length→SpOk (spA sts i)∧((spA sts i).op≠1→RkC (spA sts i).op)) (hfew:sts.length≤200) (hns:ns.length≤512) (q:Option Addr) (m r Bs:Nat) (xs:List Value) (hm:sts.length=m) (w:World) (hT:TapC w B tb ns) (hTz:Hid (∀ W,Below B w W→Tz W)) (ho:w.ownsRow Bs 137 7 (.slice q m r) m xs) (hc:StsC B w sts xs):
  Calls Tryz.prog 46 #[.pointer (some ⟨tb,0,none⟩),.slice q m r] w fun e w'=>∃ v,e = .returned (.tuple #[.int .i64 (if (pyF ns.length sts ns m).1=0 then (pyF ns.length sts ns m).2.2.1 else 0),v,.int .i64 (pyF ns.length sts ns m).1])∧OwnK .i64 3 w' w.heap.size v (if (pyF ns.length sts ns m).1=0 then (pyF ns.length sts ns m).2.2.2 else [])∧TapC w' B tb (pyF ns.length sts ns m).2.1∧Below B w w'∧Only SC w w':=by
 haveI:Nonempty World:=⟨w⟩
 have cln:=clen_any B tb ns w hT
 have hBz:B≤w.heap.size:=by
  obtain ⟨hb,_,_,hv,_⟩:=hT
  exact Nat.le_trans hb (Nat.le_of_lt (heap_lt hv))
 obtain ⟨f,ef⟩:∃ f:Int,(ns.length:Int)=f:=⟨_,rfl⟩
 have hf:0≤f∧f≤1000:=by omega
 rw [ef] at cln ⊢
 have hstop:=pyF_stop f sts ns
 have hpar:=pyF_par f sts ns
 obtain ⟨F,eF⟩:∃ F,pyF f sts ns=F:=⟨_,rfl⟩
 have h0:F 0=(0,ns,0,[]):=by rw [← eF];rfl
 have hs:∀ i,(F i).1=0→F (i+1)=(stE f (F i).2.1 (spA sts i),stN f (F i).2.1 (spA sts i),stR f (F i).2.1 (spA sts i),if (spA sts i).par=true then (F i).2.2.2++[stR f (F i).2.1 (spA sts i)] else (F i).2.2.2):=fun i h=>by
  rw [← eF] at h ⊢
  conv=>lhs;unfold pyF
  rw [if_pos h]
 rw [eF] at hstop hpar ⊢
 have HF:Hid (F 0=(0,ns,0,[])∧(∀ i,(F i).1=0→F (i+1)=(stE f (F i).2.1 (spA sts i),stN f (F i).2.1 (spA sts i),stR f (F i).2.1 (spA sts i),if (spA sts i).par=true then (F i).2.2.2++[stR f (F i).2.1 (spA sts i)] else (F i).2.2.2))∧(∀ i,(F i).1≠0→∀ k,F (i+k)=F i)∧(∀ i,(F i).2.2.2.length≤i)):=⟨h0,hs,hstop,hpar⟩
 have HK:Hid (B≤w.heap.size∧w.ownsRow Bs 137 7 (.slice q m r) m xs∧StsC B w sts xs∧sts.length=m∧(∀ i,i < m→SpOk (spA sts i)∧((spA sts i).op≠1→RkC (spA sts i).op))):=⟨hBz,ho,hc,hm,by rw [← hm];exact hok⟩
 have HT:Hid (TapC w B tb ns∧NodesG ns):=⟨hT,hG⟩
 have hm2:m≤200:=by omega
 obtain ⟨LR,eLR⟩:∃ z,(if (F m).1=0 then (F m).2.2.1 else 0)=z:=⟨_,rfl⟩
 obtain ⟨PR,ePR⟩:∃ z,(if (F m).1=0 then (F m).2.2.2 else [])=z:=⟨_,rfl⟩
 rw [eLR,ePR]
 have HRR:Hid ((if (F m).1=0 then (F m).2.2.1 else 0)=LR∧(if (F m).1=0 then (F m).2.2.2 else [])=PR):=⟨eLR,ePR⟩
 clear eLR ePR h0 hs hstop hpar eF ho hc hm hok hT hG hfew hns hBz ef
 go_enter Tryz.func46,Tryz.ntmps46
 go_wp2_with fail
 refine cln.mono ?_
 rintro e w1 ⟨rfl,rfl⟩
 clear cln
 go_wp2_with fail
 go_loopg [8,9,18] m (fun gg u v i wr=>∃ (k:Nat),k≤m∧gg=m - k∧u = .int .i64 (F k).2.2.1∧i = .int .i64 (k:Int)∧Hid ((F k).1=0∧TapC wr B tb (F k).2.1∧NodesG (F k).2.1∧PrO w1 B tb (F k).2.2.2 v wr∧Below B w1 wr∧Only SC w1 wr))
 case atStart=>
  refine ⟨0,by omega,by omega,by rw [HF.out.1],rfl,?_⟩
  show _∧_
  rw [HF.out.1]
  exact ⟨rfl,HT.out.1,HT.out.2,PrO.nil _ _ _ _,Below.refl _ _,Only.refl _ _⟩
 case round=>
  obtain ⟨k,hk,hg,rfl,rfl,HI⟩:=hrel
  by_cases hkm:k < m
  ·have hk':(k:Int) < (m:Int):=by omega
   obtain ⟨hok,hrk⟩:=HK.out.2.2.2.2 k hkm
   have hstep:=HF.out.2.1 k HI.out.1
   obtain ⟨g,s1,n1,c1,s2,n2,c2,rfl,y0,y1,y2,y3,y4,y5,y6,k1,k2⟩:=stpN (n:=0) (owns_only HK.out.2.1 HI.out.2.2.2.2.2 (by decide)) HK.out.2.2.1 HK.out.2.2.2.1 k hkm
   obtain ⟨st,est⟩:∃ st,spA sts k=st:=⟨_,rfl⟩
   rw [est] at y0 y1 y2 y3 y6 k1 k2 hstep hok hrk
   have hRn:R4 B w1 wr:=⟨HI.out.2.2.2.2.1,HI.out.2.2.2.2.2.more (by simp)⟩
   have cL:Hid (∀ W,Below wr.heap.size wr W→Calls Tryz.prog 78 #[.pointer (some ⟨tb,0,none⟩),.agg #[.int .i64 st.op,.int .i64 st.a,.int .i64 st.b,.int .i64 st.k,.slice s1 n1 c1,.slice s2 n2 c2,.bool st.par],.int .i64 f] W fun e w'=>e = .returned (.tuple #[.int .i64 (stR f (F k).2.1 st),.int .i64 (stE f (F k).2.1 st)])∧TapC w' B tb (stN f (F k).2.1 st)∧Below B W w'∧Only SC W w'∧Spar2 tb W w'):=fun W hW=>by
    have hR:R4 B w1 W:=hRn.trans (R4.of (Nat.le_trans HK.out.1 hRn.size) hW)
    exact lay_any B tb (F k).2.1 HI.out.2.2.1 st hok hrk f hf s1 n1 c1 s2 n2 c2 W (HI.out.2.1.up hW) (hTz.out W hR.bel) (k1 W hR) (k2 W hR)
   have HG2:Hid (NodesG (stN f (F k).2.1 st)):=HI.out.2.2.1.st hok.rX
   obtain ⟨E,eE⟩:∃ E,stE f (F k).2.1 st=E:=⟨_,rfl⟩
   obtain ⟨R,eR⟩:∃ E,stR f (F k).2.1 st=E:=⟨_,rfl⟩
   obtain ⟨NS,eN⟩:∃ E,stN f (F k).2.1 st=E:=⟨_,rfl⟩
   rw [eE,eR,eN] at cL hstep
   rw [eN] at HG2
   have HST:Hid (F (k+1)=(E,NS,R,if st.par=true then (F k).2.2.2++[R] else (F k).2.2.2)):=hstep
   obtain ⟨op,a,b,kk,D,X,par⟩:=st
   simp only [] at y0 y1 y2 y3 y6 cL
   have hlt:=cell_size y0
   clear hok hrk hstep k1 k2 est hRn eE eR eN hf
   go_wp2_with fail
   generalize hW2:World.alloc _ _=W2
   have HB2:Hid (Below wr.heap.size wr W2):=by rw [← hW2];exact up_alloc wr _
   have e6:W2.cell? ⟨wr.heap.size,6,none⟩=some (.bool par):=by rw [← hW2];simp [go_sem]
   have HX2:Hid (∃ cs,W2.heap[wr.heap.size]?=some (.cells cs 137 (0,0))∧cs[6]?=some (.bool par)):=⟨_,by rw [← hW2];exact Array.getElem?_push_size,rfl⟩
   clear hW2 y0 y1 y2 y3 y4 y5 y6 hlt
   refine (cL.out W2 HB2.out).mono ?_
   rintro e w3 ⟨rfl,hT3,hB3,hO3,hS3⟩
   have e63:w3.cell? ⟨wr.heap.size,6,none⟩=some (.bool par):=by
    obtain ⟨cs,h1,h2⟩:=HX2.out
    have:=hO3.keep h1 (by decide)
    unfold World.cell?
    simp [this,h2]
   have HI3:Hid (TapC w3 B tb NS∧PrO w1 B tb (F k).2.2.2 u9 w3∧Below B w1 w3∧Only SC w1 w3):=⟨hT3,(HI.out.2.2.2.1.up HB2.out).tape hO3 hS3,HI.out.2.2.2.2.1.trans ((HB2.out.mono (Nat.le_trans HK.out.1 HI.out.2.2.2.2.2.1)).trans hB3),HI.out.2.2.2.2.2.trans ((Only.of HB2.out).trans hO3)⟩
   clear hT3 hB3 hO3 hS3 e6 HX2 cL
   by_cases hE:E=0
   case neg=>
    have hE':(E != 0)=true:=by simpa using hE
    have HE:Hid (F m=(E,NS,R,if par=true then (F k).2.2.2++[R] else (F k).2.2.2)):=by
     have h4:=HF.out.2.2.1 (k+1) (by rw [HST.out];exact hE) (m - (k+1))
     rw [show k+1+(m - (k+1))=m by omega] at h4
     show _=_
     rw [h4,HST.out]
    have HRS:Hid (∃ v,Ending.returned (.tuple #[.int .i64 0,.slice none 0 0,.int .i64 E]) = .returned (.tuple #[.int .i64 LR,v,.int .i64 (F m).1])∧OwnK .i64 3 w3 w1.heap.size v PR∧TapC w3 B tb (F m).2.1∧Below B w1 w3∧Only SC w1 w3):=by
     show ∃ _,_
     have e1:(F m).1=E:=by rw [HE.out]
     have e2:=HRR.out
     rw [if_neg (by rw [e1];exact hE),if_neg (by rw [e1];exact hE)] at e2
     rw [← e2.1,← e2.2,e1]
     refine ⟨_,rfl,OwnK.nil _ _ _ _,?_,HI3.out.2.2⟩
     rw [HE.out]
     exact HI3.out.1
    clear HE HI3 HST HI
    go_wp2
    exact bodyPost_ret (v:=.tuple #[.int .i64 0,.slice none 0 0,.int .i64 E]) (by simp [results,Tryz.results46,go_sem]) rfl HRS.out
   subst hE
   cases par with
   | false=>
    have HN:Hid ((F (k+1)).1=0∧TapC w3 B tb (F (k+1)).2.1∧NodesG (F (k+1)).2.1∧PrO w1 B tb (F (k+1)).2.2.2 u9 w3∧Below B w1 w3∧Only SC w1 w3):=by
     show _∧_
     rw [HST.out]
     exact ⟨rfl,HI3.out.1,HG2.out,HI3.out.2.1,HI3.out.2.2⟩
    have HL:Hid ((F (k+1)).2.2.1=R):=by show _=_;rw [HST.out]
    clear HI3 HI HST
    go_wp2
    go_roundg (m - (k+1))
    case measure=>omega
    case rel=>exact ⟨k+1,by omega,rfl,by rw [HL.out],by first|rfl|simp,HN⟩
   | true=>
    obtain ⟨pv,nv,cv,rfl,HCv⟩:=HI3.out.2.1.own.nums.lst
    have hnv:=HCv.out.1
    have hpl:=HF.out.2.2.2 k
    have HLN:Hid ((F k).2.2.2.length=nv):=hnv
    clear HCv
    have hbl:Below w3.heap.size w3 (w3.alloc (.cells #[.int .i64 R] 3)):=up_alloc w3 _
    have HP5:Hid (PrO w1 B tb (F k).2.2.2 (.slice pv nv cv) (w3.alloc (.cells #[.int .i64 R] 3))∧TapC (w3.alloc (.cells #[.int .i64 R] 3)) B tb NS):=⟨HI3.out.2.1.up hbl,HI3.out.1.up hbl⟩
    have A1:Hid ((w3.alloc (.cells #[.int .i64 R] 3)).ownsRow w1.heap.size 3 1 (.slice pv nv cv) nv (vals .i64 (F k).2.2.2)):=by
     have:=HP5.out.1.own
     unfold OwnK at this
     rw [hnv] at this
     exact this
    have A2:Hid ((w3.alloc (.cells #[.int .i64 R] 3)).heap[w3.heap.size]?=some (.cells [Value.int .i64 R].toArray 3 (0,0))):=Array.getElem?_push_size
    have A3:Hid (∀ y∈[Value.int .i64 R],y.oneCell'=true):=fun y hy=>by simp at hy;subst hy;rfl
    have A4:Hid (w1.heap.size≤(w3.alloc (.cells #[.int .i64 R] 3)).heap.size):=Nat.le_trans HI3.out.2.2.2.1 hbl.size
    have A5:Hid (Below B w1 (w3.alloc (.cells #[.int .i64 R] 3))∧Only SC w1 (w3.alloc (.cells #[.int .i64 R] 3))):=⟨HI3.out.2.2.1.trans (hbl.mono (Nat.le_trans HK.out.1 HI3.out.2.2.2.1)),HI3.out.2.2.2.trans (Only.of hbl)⟩
    have hnv2:nv+1≤1073741825:=by omega
    clear hbl HI3 hnv
    go_wp2_with (at_builtin;refine wpList_appA intT1 (by decide) (by decide) rfl (.tmp 34) (.tmp 36) rfl w1.heap.size _ _ _ rfl A1.out _ [.int .i64 R] rfl A2.out rfl A3.out hnv2 A4.out ?_;intro v0 w0 H0 O0 B0)
    have HN:Hid ((F (k+1)).1=0∧TapC w0 B tb (F (k+1)).2.1∧NodesG (F (k+1)).2.1∧PrO w1 B tb (F (k+1)).2.2.2 v0 w0∧Below B w1 w0∧Only SC w1 w0):=by
     show _∧_
     rw [HST.out]
     obtain ⟨g1,g2,g3⟩:=HP5.out.1.grow (x:=R) HP5.out.2 (by rw [HLN.out];exact H0.out) O0.out B0.out
     exact ⟨rfl,g2,HG2.out,g1,g3 w1 A5.out.1 A5.out.2 (Nat.le_refl _) HK.out.1⟩
    have HL:Hid ((F (k+1)).2.2.1=R):=by show _=_;rw [HST.out]
    clear A1 A2 A3 A4 A5 H0 O0 B0 HP5 HST HI
    go_wp2
    go_roundg (m - (k+1))
    case measure=>omega
    case rel=>exact ⟨k+1,by omega,rfl,by rw [HL.out],by first|rfl|simp,HN⟩
  ·obtain rfl:k=m:=by omega
   have HRS:Hid (∃ v,Ending.returned (.tuple #[.int .i64 (F k).2.2.1,u9,.int .i64 0]) = .returned (.tuple #[.int .i64 LR,v,.int .i64 (F k).1])∧OwnK .i64 3 wr w1.heap.size v PR∧TapC wr B tb (F k).2.1∧Below B w1 wr∧Only SC w1 wr):=by
    show ∃ _,_
    have e2:=HRR.out
    rw [if_pos HI.out.1,if_pos HI.out.1] at e2
    rw [← e2.1,← e2.2,HI.out.1]
    exact ⟨_,rfl,HI.out.2.2.2.1.own,HI.out.2.1,HI.out.2.2.2.2⟩
   go_wp2
   exact bodyPost_ret (v:=.tuple #[.int .i64 (F k).2.2.1,u9,.int .i64 0]) (by simp [results,Tryz.results46,go_sem]) rfl HRS.out
theorem spA_mem {sts:List Sp} {i:Nat} (h:i < sts.length):spA sts i∈sts:=by
 unfold spA
 rw [List.getD_eq_getElem?_getD,List.getElem?_eq_getElem h]
 exact List.getElem_mem h
theorem RI.nil:RI []:=fun y h=>by simp at h
theorem RI.takes {l:List Int} (h:RI l) (n:Nat):RI (l.take n):=fun y hy=>h y (List.mem_of_mem_take hy)
theorem RI.drops {l:List Int} (h:RI l) (n:Nat):RI (l.drop n):=fun y hy=>h y (List.mem_of_mem_drop hy)
theorem spD_ok {op a b k:Int} (h1:1≤op∧op≤14) (ha:0≤a∧a≤1000) (hb:0≤b∧b≤1000) (hk:0≤k∧k≤1000):SpOk (spD op a b k):=⟨ha,hb,hk,h1,RI.nil,RI.nil⟩
theorem spL_ok {D X:List Int} {q:Bool} (hD:RI D) (hX:RI X):SpOk ⟨1,0,0,0,D,X,q⟩:=⟨show (0:Int)≤0∧(0:Int)≤1000 by omega,show (0:Int)≤0∧(0:Int)≤1000 by omega,show (0:Int)≤0∧(0:Int)≤1000 by omega,show (1:Int)≤1∧(1:Int)≤14 by omega,hD,hX⟩
theorem par_ri {l:Ly} {d:List Int} (hl:LayOk l) (hd:InOk d):∀ j,RI (shA (parD l d) j):=fun j=>by
 have hp:=hd.prod
 have h0:0≤d.getD 0 0∧d.getD 0 0≤1024:=by rcases hd with ⟨x,rfl,h⟩|⟨x,y,rfl,hx,hy⟩ <;> simp <;> omega
 unfold parD
 rcases layOk_cases hl with ⟨-,k,g1,g2⟩|⟨-,k,g1,g2⟩|⟨-,k,g1,g2⟩|⟨-,k,g1,g2⟩|⟨-,k,g1,g2⟩ <;> rw [k]
 ·match j with
  | 0=>intro y hy;simp [shA] at hy;omega
  | 1=>intro y hy;simp [shA] at hy;omega
  | j+2=>intro y hy;simp [shA] at hy
 ·match j with
  | 0=>intro y hy;simp [shA] at hy;simp at h0;omega
  | j+1=>intro y hy;simp [shA] at hy
 all_goals intro y hy;simp [shA] at hy
theorem prS_ok {PP:List (List Int)} {rest:List Int} (hP:∀ j,RI (shA PP j)) (hr:RI rest):∀ j,(∀ st,st∈(prS PP rest j).1→SpOk st)∧RI (prS PP rest j).2
 | 0=>⟨fun st h=>by simp [prS] at h,hr⟩
 | j+1=>by
  obtain ⟨h1,h2⟩:=prS_ok hP hr j
  refine ⟨fun st h=>?_,h2.drops _⟩
  simp only [prS,List.mem_append,List.mem_cons,List.not_mem_nil,or_false] at h
  rcases h with h|rfl
  ·exact h1 st h
  ·exact spL_ok (hP j) (h2.takes _)
theorem layS_ok {l:Ly} {d:List Int} (hl:LayOk l) (hd:InOk d) {N:Nat} (hN:N≤200) {rest:List Int} (hr:RI rest) {bf last:Int} (hb:0≤bf∧bf≤300) (ha:0≤last∧last≤300):(∀ st,st∈layS l d N rest bf last→SpOk st)∧RI (layR l d rest)∧layN l d N≤N+5:=by
 obtain ⟨h1,h2⟩:=prS_ok (par_ri hl hd) hr (parD l d).length
 refine ⟨fun st h=>?_,h2,?_⟩
 ·unfold layS at h
  rw [List.mem_append] at h
  rcases h with h|h
  ·exact h1 st h
  ·rcases layOk_cases hl with ⟨-,k,g1,g2⟩|⟨-,k,g1,g2⟩|⟨-,k,g1,g2⟩|⟨-,k,g1,g2⟩|⟨-,k,g1,g2⟩ <;> rw [k] at h
   ·simp only [if_true] at h
    unfold denS at h
    split at h <;> simp only [List.mem_cons,List.not_mem_nil,or_false] at h
    ·rcases h with rfl|rfl|rfl|rfl <;> refine spD_ok ?_ ?_ ?_ ?_ <;> omega
    ·rcases h with rfl|rfl|rfl <;> refine spD_ok ?_ ?_ ?_ ?_ <;> omega
   all_goals
    simp at h
    subst h
    refine spD_ok ?_ ?_ ?_ ?_ <;> omega
 ·unfold layN denN
  split
  ·split <;> omega
  ·split <;> omega
theorem plF_ok {d:List Int} {ls:List Ly} {S:List (List Int)} {P X:List Int} (ok:NetOk d ls S) (h16:ls.length≤16) (hd:RI d) (hP:RI P) (hX:RI X):∀ i,i≤ls.length→(∀ st,st∈(plF d ls S P X i).1→SpOk st)∧RI (plF d ls S P X i).2.1∧(0≤(plF d ls S P X i).2.2.1∧(plF d ls S P X i).2.2.1≤300)∧0≤(plF d ls S P X i).2.2.2∧(plF d ls S P X i).2.2.2≤300
 | 0,_=>by
  refine ⟨fun st h=>?_,hP,by simp [plF],by simp [plF],by simp [plF]⟩
  simp only [plF,List.mem_cons,List.not_mem_nil,or_false] at h
  subst h
  exact spL_ok hd hX
 | i+1,hi=>by
  obtain ⟨h1,h2,h3,h4⟩:=plF_ok ok h16 hd hP hX i (by omega)
  have hN:=plF_few d ls S P X i
  obtain ⟨g1,g2,g3⟩:=layS_ok (ok.lay i (by omega)) (ok.inn i (by omega)) (N:=(plF d ls S P X i).1.length) (by omega) h2 h3 h4
  refine ⟨fun st h=>?_,g2,h4,?_,?_⟩
  ·simp only [plF,List.mem_append] at h
   rcases h with h|h
   ·exact h1 st h
   ·exact g1 st h
  ·simp only [plF];omega
  ·simp only [plF];omega
/-- What Run makes: an error, the nodes, the last one, the parameters' nodes. -/
def rnF (d:List Int) (ls:List Ly) (ns:List Nd) (P X:List Int):Int×List Nd×Int×List Int:=
 if nE d ls=0 then
  if (P.length:Int)=cntP ls (nS d ls) ls.length∧(X.length:Int)=prodI d then
   if ns.length+(plF d ls (nS d ls) P X ls.length).1.length≤512 then
    ((pyF ns.length (plF d ls (nS d ls) P X ls.length).1 ns (plF d ls (nS d ls) P X ls.length).1.length).1,(pyF ns.length (plF d ls (nS d ls) P X ls.length).1 ns (plF d ls (nS d ls) P X ls.length).1.length).2.1,(if (pyF ns.length (plF d ls (nS d ls) P X ls.length).1 ns (plF d ls (nS d ls) P X ls.length).1.length).1=0 then (pyF ns.length (plF d ls (nS d ls) P X ls.length).1 ns (plF d ls (nS d ls) P X ls.length).1.length).2.2.1 else 0),(if (pyF ns.length (plF d ls (nS d ls) P X ls.length).1 ns (plF d ls (nS d ls) P X ls.length).1.length).1=0 then (pyF ns.length (plF d ls (nS d ls) P X ls.length).1 ns (plF d ls (nS d ls) P X ls.length).1.length).2.2.2 else []))
   else (2,ns,0,[])
  else (1,ns,0,[])
 else (nE d ls,ns,0,[])
theorem TapC.rn {B B' tb:Nat} {W W':World} {ns:List Nd} (h:TapC W B tb ns) (hR:Rn B' W W'):TapC W' B tb ns:=Tap.only h hR.onl (by decide) (by decide) (by decide) (by decide)
theorem InOk.ri {d:List Int} (h:InOk d):RI d:=by
 rcases h with ⟨x,rfl,h⟩|⟨x,y,rfl,hx,hy⟩ <;> intro z hz <;> simp at hz <;> omega
theorem Run_any (B tb:Nat) (ns:List Nd) (hG:NodesG ns) (hns:ns.length≤512) (d:List Int) (ls:List Ly) (P X:List Int) (hP:RI P) (hX:RI X) (hRk:nE d ls=0→∀ st,st∈(plF d ls (nS d ls) P X ls.length).1→st.op≠1→RkC st.op) (p p2 pp px:Option Addr) (n c n2 c2 np cp nx cx:Nat) (hbig:n2≤1073741823) (hPb:P.length≤1073741824) (w:World) (hT:TapC w B tb ns) (hTz:Hid (∀ W,Below B w W→Tz W)) (hKz:Hid (Kz w)) (hIn:Kept B w (.slice p n c) d) (hLy:∀ W',Rn B w W'→LyR 0 W' p2 n2 ls) (hp:Kept B w (.slice pp np cp) P) (hpc:np≤cp) (hx:Kept B w (.slice px nx cx) X):
  Calls Tryz.prog 23 #[.pointer (some ⟨tb,0,none⟩),.agg #[.slice p n c,.slice p2 n2 c2],.slice pp np cp,.slice px nx cx] w fun e w'=>∃ v,e = .returned (.tuple #[.int .i64 (rnF d ls ns P X).2.2.1,v,.int .i64 (rnF d ls ns P X).1])∧OwnK .i64 3 w' w.heap.size v (rnF d ls ns P X).2.2.2∧TapC w' B tb (rnF d ls ns P X).2.1∧Below B w w':=by
 haveI:Nonempty World:=⟨w⟩
 have hBz:B≤w.heap.size:=by
  obtain ⟨hb,_,_,hv,_⟩:=hT
  exact Nat.le_trans hb (Nat.le_of_lt (heap_lt hv))
 obtain ⟨RR,eRR⟩:∃ R,rnF d ls ns P X=R:=⟨_,rfl⟩
 obtain ⟨E,eE⟩:∃ E,nE d ls=E:=⟨_,rfl⟩
 obtain ⟨SS,eS⟩:∃ S,nS d ls=S:=⟨_,rfl⟩
 obtain ⟨sl,esl⟩:∃ sl,SS.length=sl:=⟨_,rfl⟩
 have hnp:P.length=np:=by
  obtain ⟨_,_,_,e,h⟩:=hp.nums.lst
  cases e
  exact h.out.1
 have hnx:X.length=nx:=by
  obtain ⟨_,_,_,e,h⟩:=hx.nums.lst
  cases e
  exact h.out.1
 have HR:Hid (rnF d ls ns P X=RR∧nE d ls=E∧nS d ls=SS∧SS.length=sl∧P.length=np∧X.length=nx):=⟨eRR,eE,eS,esl,hnp,hnx⟩
 have cS:Hid (∀ W,Below w.heap.size w W→Calls Tryz.prog 11 #[.agg #[.slice p n c,.slice p2 n2 c2]] W fun e w'=>∃ ps cs,e = .returned (.tuple #[.slice ps sl cs,.int .i64 E])∧OwnS w' W.heap.size (.slice ps sl cs) SS∧Below W.heap.size W w'):=fun W hW=>by
  have:=Shapes_any p p2 n c n2 c2 d ls hbig W (Hid.up_kz hKz hW) (hIn.nums.up hW) ((hLy w (Rn.refl _ _)).up hW)
  rw [eE,eS,esl] at this
  exact this
 have HK:Hid (B≤w.heap.size∧TapC w B tb ns∧NodesG ns∧ns.length≤512∧Kept B w (.slice p n c) d∧(∀ W',Rn B w W'→LyR 0 W' p2 n2 ls)∧Kept B w (.slice pp np cp) P∧np≤cp∧Kept B w (.slice px nx cx) X∧P.length≤1073741824∧RI P∧RI X∧n2≤1073741823):=⟨hBz,hT,hG,hns,hIn,hLy,hp,hpc,hx,hPb,hP,hX,hbig⟩
 have HRK:Hid (E=0→∀ st,st∈(plF d ls SS P X ls.length).1→st.op≠1→RkC st.op):=by
  show _→_
  rw [← eE,← eS]
  exact hRk
 rw [eRR]
 clear eRR eE eS esl hnp hnx hIn hLy hp hpc hx hPb hP hX hT hG hns hRk hKz hBz hbig
 go_enter Tryz.func23,Tryz.ntmps23
 go_wp2_with fail
 generalize hW0:World.alloc _ _=W0
 have HB0:Hid (Below w.heap.size w W0):=by rw [← hW0];exact up_alloc w _
 obtain ⟨g0,g1⟩:W0.cell? ⟨w.heap.size,0,none⟩=some (.slice p n c)∧W0.cell? ⟨w.heap.size,1,none⟩=some (.slice p2 n2 c2):=by rw [← hW0];simp [go_sem]
 clear hW0
 refine (cS.out W0 HB0.out).mono ?_
 rintro e w1 ⟨ps,cs,rfl,hoS,hB1⟩
 have HB1:Hid (Below w.heap.size w w1):=bstep HB0.out hB1
 replace g0:=still_cell hB1 g0
 replace g1:=still_cell hB1 g1
 by_cases h0:E=0
 case neg=>
  have hE':(E != 0)=true:=by simpa using h0
  have HRS:Hid (∃ v,Ending.returned (.tuple #[.int .i64 0,.slice none 0 0,.int .i64 E]) = .returned (.tuple #[.int .i64 RR.2.2.1,v,.int .i64 RR.1])∧OwnK .i64 3 w1 w.heap.size v RR.2.2.2∧TapC w1 B tb RR.2.1∧Below B w w1):=by
   have h5:RR=(E,ns,0,[]):=by
    rw [← HR.out.1]
    unfold rnF
    rw [HR.out.2.1,if_neg h0]
   show ∃ _,_
   rw [h5]
   exact ⟨_,rfl,OwnK.nil _ _ _ _,HK.out.2.1.up HB1.out,HB1.out.mono HK.out.1⟩
  clear hoS hB1 cS HR
  go_wp2
  exact bodyPost_ret (v:=.tuple #[.int .i64 0,.slice none 0 0,.int .i64 E]) (by simp [results,Tryz.results23,go_sem]) rfl HRS.out
 subst h0
 obtain ⟨S,hf,hs,ht⟩:=net_good HR.out.2.1
 obtain ⟨_,h4,h5⟩:=nE_ok hf hs ht
 rw [HR.out.2.2.1] at h4
 subst h4
 obtain ⟨p',c',e',hrd⟩:=hoS.rd
 cases e'
 have HOK:Hid (NetOk d ls SS∧InOk d∧ls.length≤16):=⟨NetOk.of hf hs,((formB_iff d ls).1 hf).1,by unfold tooM at ht;simp at ht;omega⟩
 have cc:=countParams_any p p2 ps n c n2 c2 _ cs d ls SS HOK.out.1 (by have:=HK.out.2.2.2.2.2.2.2.2.2.2.2.2;omega) w1 ((HK.out.2.2.2.2.2.1 w (Rn.refl _ _)).up HB1.out) hrd
 obtain ⟨ct,ect⟩:∃ ct,cntP ls SS ls.length=ct:=⟨_,rfl⟩
 rw [ect] at cc
 have HOS:Hid (OwnS w1 W0.heap.size (.slice ps SS.length cs) SS):=hoS
 clear hoS hB1 hf hs ht h5 hrd cS
 go_wp2_with fail
 refine cc.mono ?_
 rintro e w2 ⟨rfl,hB2⟩
 have HB2:Hid (Below w.heap.size w w2):=bstep HB1.out hB2
 have HOS2:Hid (OwnS w2 0 (.slice ps SS.length cs) SS):=(HOS.out.up hB2).low (Nat.zero_le _)
 replace g0:=still_cell hB2 g0
 replace g1:=still_cell hB2 g1
 have HCT:Hid (cntP ls SS ls.length=ct):=ect
 have kg:=cell_size g0
 clear hB2 cc HOS ect
 have HEG:Hid (¬ ((P.length:Int)=ct∧(X.length:Int)=prodI d)→∀ W,Below w.heap.size w W→∃ v,Ending.returned (.tuple #[.int .i64 0,.slice none 0 0,.int .i64 1]) = .returned (.tuple #[.int .i64 RR.2.2.1,v,.int .i64 RR.1])∧OwnK .i64 3 W w.heap.size v RR.2.2.2∧TapC W B tb RR.2.1∧Below B w W):=fun hne W hW=>by
  have h5:RR=(1,ns,0,[]):=by
   rw [← HR.out.1]
   unfold rnF
   rw [HR.out.2.1,HR.out.2.2.1,HCT.out,if_pos rfl,if_neg hne]
  rw [h5]
  exact ⟨_,rfl,OwnK.nil _ _ _ _,HK.out.2.1.up hW,hW.mono HK.out.1⟩
 by_cases hpn:(np:Int)=ct
 case neg=>
  have hpn':((np:Int) != ct)=true:=by simpa using hpn
  have HRS:Hid _:=HEG.out (fun h=>hpn (by rw [← HR.out.2.2.2.2.1];exact h.1)) w2 HB2.out
  clear HEG hpn
  go_wp2
  exact bodyPost_ret (v:=.tuple #[.int .i64 0,.slice none 0 0,.int .i64 1]) (by simp [results,Tryz.results23,go_sem]) rfl HRS.out
 have hpn':((np:Int) != ct)=false:=by simpa using hpn
 have cz:=csize_any (.slice p n c) d HOK.out.2.1.smal w2 (HK.out.2.2.2.2.1.nums.up HB2.out)
 obtain ⟨pd,epd⟩:∃ x,prodI d=x:=⟨_,rfl⟩
 rw [epd] at cz
 have HPD:Hid (prodI d=pd∧(np:Int)=ct):=⟨epd,hpn⟩
 clear epd hpn
 go_wp2_with fail
 refine cz.mono ?_
 rintro e w3 ⟨rfl,rfl⟩
 clear cz
 by_cases hxn:(nx:Int)=pd
 case neg=>
  have hxn':((nx:Int) != pd)=true:=by simpa using hxn
  have HRS:Hid _:=HEG.out (fun h=>hxn (by rw [← HR.out.2.2.2.2.2,← HPD.out.1];exact h.2)) w3 HB2.out
  clear HEG hxn
  go_wp2
  exact bodyPost_ret (v:=.tuple #[.int .i64 0,.slice none 0 0,.int .i64 1]) (by simp [results,Tryz.results23,go_sem]) rfl HRS.out
 have hxn':((nx:Int) != pd)=false:=by simpa using hxn
 have HXN:Hid ((nx:Int)=pd):=hxn
 clear hxn HEG
 have HR2:Hid (Rn B w w3):=Rn.of HK.out.1 HB2.out
 have cpl:=planOf_any B d ls SS HOK.out.1 HOK.out.2.2 P X (by rw [HR.out.2.2.2.2.1,HCT.out];exact HPD.out.2) HK.out.2.2.2.2.2.2.2.2.2.1 p p2 ps pp px n c n2 c2 SS.length cs np cp nx cx w3 (Nat.le_trans HK.out.1 HB2.out.size) (HK.out.2.2.2.2.1.up HR2.out) (fun W' hW'=>HK.out.2.2.2.2.2.1 W' (HR2.out.trans hW')) HOS2.out rfl (HK.out.2.2.2.2.2.2.1.up HR2.out) HK.out.2.2.2.2.2.2.2.1 (HK.out.2.2.2.2.2.2.2.2.1.up HR2.out)
 have hfew:=plF_few d ls SS P X ls.length
 have hokp:=(plF_ok HOK.out.1 HOK.out.2.2 HOK.out.2.1.ri HK.out.2.2.2.2.2.2.2.2.2.2.1 HK.out.2.2.2.2.2.2.2.2.2.2.2.1 (P:=P) (X:=X) ls.length (Nat.le_refl _)).1
 obtain ⟨sts,ests⟩:∃ z,(plF d ls SS P X ls.length).1=z:=⟨_,rfl⟩
 rw [ests] at cpl hfew hokp
 have HST:Hid ((plF d ls SS P X ls.length).1=sts∧sts.length≤97∧(∀ st,st∈sts→SpOk st)∧(∀ st,st∈sts→st.op≠1→RkC st.op)):=⟨ests,by have:=HOK.out.2.2;omega,hokp,by have:=HRK.out (by trivial);rw [ests] at this;exact this⟩
 clear hfew hokp ests HOS2
 go_wp2_with fail
 refine cpl.mono ?_
 rintro e w4 ⟨q,m,r,xs,rfl,hm,hrow,hsc,hR4⟩
 have HM:Hid (sts.length=m∧w4.ownsRow B 137 7 (.slice q m r) m xs∧StsC B w4 sts xs∧Rn B w w4):=⟨hm,hrow,hsc,HR2.out.trans hR4⟩
 have hm2:m≤97:=by rw [← hm];exact HST.out.2.1
 have HT4:Hid (TapC w4 B tb ns):=(HK.out.2.1.up HB2.out).rn hR4
 have cln:=clen_any B tb ns w4 HT4.out
 obtain ⟨nl,enl⟩:∃ nl,ns.length=nl:=⟨_,rfl⟩
 have hnl:nl≤512:=by rw [← enl];exact HK.out.2.2.2.1
 rw [enl] at cln
 have HNL:Hid (ns.length=nl):=enl
 clear cpl hm hrow hsc hR4 enl g0 g1 kg HR2
 go_wp2_with fail
 refine cln.mono ?_
 rintro e w5 ⟨rfl,rfl⟩
 clear cln
 by_cases hfit:nl+m≤512
 case neg=>
  have hfit':(512:Int) < (nl:Int)+(m:Int):=by omega
  have HRS:Hid (∃ v,Ending.returned (.tuple #[.int .i64 0,.slice none 0 0,.int .i64 2]) = .returned (.tuple #[.int .i64 RR.2.2.1,v,.int .i64 RR.1])∧OwnK .i64 3 w5 w.heap.size v RR.2.2.2∧TapC w5 B tb RR.2.1∧Below B w w5):=by
   have h5:RR=(2,ns,0,[]):=by
    rw [← HR.out.1]
    unfold rnF
    rw [HR.out.2.1,HR.out.2.2.1,HCT.out,if_pos rfl,if_pos ⟨by rw [HR.out.2.2.2.2.1];exact HPD.out.2,by rw [HR.out.2.2.2.2.2,HPD.out.1];exact HXN.out⟩,HST.out.1,HM.out.1,HNL.out,if_neg hfit]
   show ∃ _,_
   rw [h5]
   exact ⟨_,rfl,OwnK.nil _ _ _ _,HT4.out,HM.out.2.2.2.bel⟩
  clear HR HST HM hfit
  go_wp2
  exact bodyPost_ret (v:=.tuple #[.int .i64 0,.slice none 0 0,.int .i64 2]) (by simp [results,Tryz.results23,go_sem]) rfl HRS.out
 have hfit':¬ (512:Int) < (nl:Int)+(m:Int):=by omega
 have hfit2:(nl:Int)+(m:Int)≤512:=by omega
 have cpy:=play_any B tb ns HK.out.2.2.1 sts (fun i hi=>⟨HST.out.2.2.1 _ (spA_mem hi),HST.out.2.2.2 _ (spA_mem hi)⟩) (by have:=HST.out.2.1;omega) HK.out.2.2.2.1 q m r B xs HM.out.1 w5 HT4.out (by show ∀ W,_;intro W hW;exact hTz.out W (HM.out.2.2.2.bel.trans hW)) HM.out.2.1 HM.out.2.2.1
 have HRE:Hid (RR=((pyF ns.length sts ns m).1,(pyF ns.length sts ns m).2.1,(if (pyF ns.length sts ns m).1=0 then (pyF ns.length sts ns m).2.2.1 else 0),(if (pyF ns.length sts ns m).1=0 then (pyF ns.length sts ns m).2.2.2 else []))):=by
  show _=_
  rw [← HR.out.1]
  unfold rnF
  rw [HR.out.2.1,HR.out.2.2.1,HCT.out,if_pos rfl,if_pos ⟨by rw [HR.out.2.2.2.2.1];exact HPD.out.2,by rw [HR.out.2.2.2.2.2,HPD.out.1];exact HXN.out⟩,HST.out.1,HM.out.1,if_pos (by rw [HNL.out];exact hfit)]
 have cp2:Calls Tryz.prog 46 #[.pointer (some ⟨tb,0,none⟩),.slice q m r] w5 fun e w'=>∃ v,e = .returned (.tuple #[.int .i64 RR.2.2.1,v,.int .i64 RR.1])∧OwnK .i64 3 w' w.heap.size v RR.2.2.2∧TapC w' B tb RR.2.1∧Below B w w':=by
  refine cpy.mono ?_
  rintro e w' ⟨v,h1,h2,h3,h4,_⟩
  rw [HRE.out]
  exact ⟨v,h1,h2.low HM.out.2.2.2.size,h3,HM.out.2.2.2.bel.trans h4⟩
 clear cpy HRE HST HR HM hfit HK HPD HXN HCT HOK HT4 HRK
 go_wp2_with fail
 refine cp2.mono ?_
 rintro e w6 ⟨v6,rfl,h6⟩
 have HF:Hid _:=h6
 clear h6 cp2
 go_wp2
 exact bodyPost_ret (v:=.tuple #[.int .i64 RR.2.2.1,v6,.int .i64 RR.1]) (by simp [results,Tryz.results23,go_sem]) rfl ⟨_,rfl,HF.out⟩
end Go.Proofs.YtiampagapgjedaaGreatDoor.Wd
namespace Go.Proofs.YtiampagapgjedaaGreatDoor.Wd
open Go.RowKit
theorem spans_few (s:ByteArray):∀ n,(spansN s n).1.length+(if (spansN s n).2=none then 0 else 1)≤n
 | 0=>by simp [spansN]
 | n+1=>by
  have ih:=spans_few s n
  have e:spansN s (n+1)=spanStep s n (spansN s n):=rfl
  rw [e]
  unfold spanStep
  cases hs:(spansN s n).2 with
  | none=>rw [hs] at ih;simp at ih;split <;> simp <;> omega
  | some a=>rw [hs] at ih;simp at ih;split <;> simp <;> omega
theorem words_few (s:ByteArray):(wordsB s).length≤s.size:=by
 have:=spans_few s s.size
 unfold wordsB Lib.closeSpans
 rw [List.length_map]
 cases hs:(spansN s s.size).2 with
 | none=>rw [hs] at this;simpa using this
 | some a=>rw [hs] at this;simpa using this
theorem parL_few:∀ (f:Nat) (ws:List ByteArray) (ls:List Ly),parL f ws=some ls→ls.length≤f
 | 0,_,ls,h=>by cases h;simp
 | f+1,[],ls,h=>by cases h;simp
 | f+1,u :: us,ls,h=>by
  rw [parL_succ] at h
  split at h
  ·cases h
  ·obtain ⟨l,h1,rfl⟩:=Option.map_eq_some_iff.1 h
   have:=parL_few f _ l h1
   simp only [List.length_cons]
   omega
theorem parW_few {ws:List ByteArray} {x:List Int×List Ly} (h:parW ws=some x):x.2.length≤ws.length:=by
 cases ws with
 | nil=>cases h
 | cons u us=>
  rw [parW_cons] at h
  split at h
  ·obtain ⟨l,h1,rfl⟩:=Option.map_eq_some_iff.1 h
   have h2:=parL_few _ _ l h1
   have h3:=(numsA_len us 2).2
   simp only [List.length_cons]
   omega
  ·cases h
theorem LyO.low {W:World} {B B':Nat} {v:Value} {ls:List Ly} (h:LyO W B v ls) (hB:B'≤B):LyO W B' v ls:=⟨h.1,h.2.imp id fun ⟨g,cap,cur,e1,e2,e3⟩=>⟨g,cap,cur,e1,Nat.le_trans hB e2,e3⟩⟩
theorem Parse_any (s:ByteArray) (w:World) (hK:Hid (Kz w)):
  Calls Tryz.prog 10 #[.string s] w fun e w'=>∃ p n c p2 n2 c2,e = .returned (.tuple #[.agg #[.slice p n c,.slice p2 n2 c2],.int .i64 (pE s)])∧OwnK .i64 3 w' w.heap.size (.slice p n c) (pX s).1∧LyO w' w.heap.size (.slice p2 n2 c2) (pX s).2∧Below w.heap.size w w':=by
 obtain ⟨E,eE⟩:∃ E,pE s=E:=⟨_,rfl⟩
 obtain ⟨X,eX⟩:∃ X,pX s=X:=⟨_,rfl⟩
 have HE:Hid (pE s=E∧pX s=X):=⟨eE,eX⟩
 have HX0:Hid (E≠0→X=([],[])):=fun h=>by rw [← eX];unfold pX;rw [if_neg (by rw [eE];exact h)]
 rw [eE,eX]
 clear eE eX
 go_enter Tryz.func10,Tryz.ntmps10
 by_cases hs:16384 < s.size
 ·have hs':(16384:Int) < ((s.size:Nat):Int):=by omega
  have e1:E=2:=by rw [← HE.out.1];unfold pE;rw [if_pos hs]
  have e2:X=([],[]):=HX0.out (by rw [e1];decide)
  subst e1 e2
  go_wp2
  exact bodyPost_ret (v:=.tuple #[.agg #[.slice none 0 0,.slice none 0 0],.int .i64 2]) (by simp [results,Tryz.results10,go_sem]) rfl ⟨_,_,_,_,_,_,rfl,OwnK.nil _ _ _ _,LyO.nil _ _,by go_grown⟩
 have hs':((s.size:Nat):Int)≤16384:=by omega
 have hsn:s.size≤16384:=by omega
 have HP:Hid (E=match parW (wordsB s) with|none=>7|some x=>nE x.1 x.2):=by
  show _=_
  rw [← HE.out.1]
  unfold pE
  rw [if_neg hs]
  cases parW (wordsB s) <;> rfl
 go_wp2_with fail
 generalize hW0:World.alloc _ _=W0
 have HB0:Hid (Below w.heap.size w W0):=by rw [← hW0];exact up_alloc w _
 have HR0:Hid (W0.heap[w.heap.size]?=some (.cells #[.slice none 0 0,.slice none 0 0] 26 (0,0))):=by
  show _=_
  rw [← hW0]
  exact Array.getElem?_push_size
 have hz0:=heap_lt HR0.out
 clear hW0
 refine (wordsOf_any s hsn W0).mono ?_
 rintro e w1 ⟨v1,rfl,hv1,hB1⟩
 obtain ⟨pv,nv,cv,rfl,_⟩:=hv1.form
 have HB1:Hid (Below w.heap.size w w1∧Below W0.heap.size W0 w1):=⟨bstep HB0.out hB1,hB1⟩
 have hwf:=words_few s
 obtain ⟨ws,ews⟩:∃ ws,wordsB s=ws:=⟨_,rfl⟩
 rw [ews] at hv1 HP hwf
 have cN:=netOf_any _ ws (by omega) w1 (Hid.up_kz hK HB1.out.1) hv1
 obtain ⟨R,eR⟩:∃ R,parW ws=R:=⟨_,rfl⟩
 have HRR:Hid (parW ws=R∧ws.length≤16384∧wordsB s=ws):=⟨eR,by omega,ews⟩
 rw [eR] at cN HP
 clear hv1 hB1 ews eR hwf
 go_wp2_with fail
 refine cN.mono ?_
 rintro e w2 ⟨v2,rfl,hn2,hB2⟩
 have HB2:Hid (Below w.heap.size w w2∧Below W0.heap.size W0 w2):=⟨bstep HB1.out.1 hB2,bstep HB1.out.2 hB2⟩
 clear cN
 cases R with
 | none=>
  have h2:v2 = .tuple #[.agg #[.slice none 0 0,.slice none 0 0],.bool false]:=hn2
  subst h2
  have e1:E=7:=HP.out
  have e2:X=([],[]):=HX0.out (by rw [e1];decide)
  subst e1 e2
  have hR2:=(HB2.out.2.block _ hz0).trans HR0.out
  obtain ⟨⟨x0,y0⟩,⟨x1,y1⟩⟩:=box_2 hR2
  have hzz:=cell_size x0
  clear hn2 hB2
  go_wp2
  generalize hU:World.setCell _ _ _=U
  obtain ⟨u0,u1,hBU,_⟩:=two_set hR2 hU
  have hzU:=cell_size u0
  exact bodyPost_ret (v:=.tuple #[.agg #[.slice none 0 0,.slice none 0 0],.int .i64 7]) (by simp [results,Tryz.results10,go_sem,u0,u1,hzU]) rfl ⟨_,_,_,_,_,_,rfl,OwnK.nil _ _ _ _,LyO.nil _ _,(hBU w _ (Nat.le_refl _) HB2.out.1).alloc (Nat.le_of_lt hzU) _⟩
 | some x=>
  obtain ⟨d,ls⟩:=x
  obtain ⟨p,n,c,p2,n2,c2,rfl,ho,hl⟩:=hn2
  have hls:=parW_few HRR.out.1
  obtain ⟨pl,cl,el,hlr⟩:=hl.rd
  cases el
  simp only [] at ho hl hls hlr
  have HO:Hid (OwnK .i64 3 w2 w1.heap.size (.slice p n c) d∧LyO w2 w1.heap.size (.slice p2 ls.length c2) ls):=⟨ho,hl⟩
  obtain ⟨nl,enl⟩:∃ n,ls.length=n:=⟨_,rfl⟩
  have hw:=HRR.out.2.1
  have cS:Hid (∀ W,Below w2.heap.size w2 W→Calls Tryz.prog 11 #[.agg #[.slice p n c,.slice p2 nl c2]] W fun e w'=>∃ ps sl cs,e = .returned (.tuple #[.slice ps sl cs,.int .i64 (nE d ls)])∧Below W.heap.size W w'):=fun W hW=>by
   have hlr':=hlr.up hW
   rw [enl] at hlr'
   refine (Shapes_any p p2 n c nl c2 d ls (by omega) W (Hid.up_kz (Hid.up_kz hK HB2.out.1) hW) (ho.nums.up hW) hlr').mono ?_
   rintro e w' ⟨ps,cs,rfl,_,hB⟩
   exact ⟨ps,_,cs,rfl,hB⟩
  have e1:E=nE d ls:=HP.out
  rw [← e1] at cS
  have HP2:Hid (E=0→X=(d,ls)):=fun h=>by
   rw [← HE.out.2]
   unfold pX
   rw [if_pos (by rw [HE.out.1];exact h),HRR.out.2.2,HRR.out.1]
   rfl
  rw [enl] at HO ⊢
  clear ho hl hls hlr hw hB2 HP e1 enl
  have hR2:Hid (w2.heap[w.heap.size]?=some (.cells #[.slice none 0 0,.slice none 0 0] 26 (0,0))∧w.heap.size < w2.heap.size):=⟨(HB2.out.2.block _ hz0).trans HR0.out,Nat.lt_of_lt_of_le hz0 HB2.out.2.size⟩
  go_wp2_with fail
  generalize hW3:World.alloc _ _=W3
  have hB3:Below w2.heap.size w2 W3:=by rw [← hW3];exact up_alloc w2 _
  obtain ⟨b0,b1⟩:W3.cell? ⟨w2.heap.size,0,none⟩=some (.slice p n c)∧W3.cell? ⟨w2.heap.size,1,none⟩=some (.slice p2 nl c2):=by rw [← hW3];simp [go_sem]
  refine (cS.out W3 hB3).mono ?_
  rintro e w4 ⟨ps,sl,cs,rfl,hB4⟩
  replace b0:=still_cell hB4 b0
  replace b1:=still_cell hB4 b1
  have hB24:Below w2.heap.size w2 w4:=bstep hB3 hB4
  have HB4:Hid (Below w.heap.size w w4):=bstep HB2.out.1 hB24
  have hR4:=(hB24.block _ hR2.out.2).trans hR2.out.1
  have HO4:Hid (OwnK .i64 3 w4 w.heap.size (.slice p n c) d∧LyO w4 w.heap.size (.slice p2 nl c2) ls):=⟨(HO.out.1.up hB24).low HB1.out.1.size,(HO.out.2.up hB24).low HB1.out.1.size⟩
  obtain ⟨⟨x0,y0⟩,⟨x1,y1⟩⟩:=box_2 hR4
  clear hW3 hB3 hB4 hB24 cS
  by_cases h0:E=0
  ·subst h0
   have e2:=HP2.out rfl
   subst e2
   go_wp2
   generalize hU:World.setCell _ _ _=U
   obtain ⟨u0,u1,hBU,hOU⟩:=two_set hR4 hU
   exact bodyPost_ret (v:=.tuple #[.agg #[.slice p n c,.slice p2 nl c2],.int .i64 0]) (by simp [results,Tryz.results10,go_sem,u0,u1]) rfl ⟨_,_,_,_,_,_,rfl,HO4.out.1.only hOU (by decide),HO4.out.2.only hOU (by decide),hBU w _ (Nat.le_refl _) HB4.out⟩
  ·have hE':(E != 0)=true:=by simpa using h0
   have e2:=HX0.out h0
   subst e2
   go_wp2
   generalize hU:World.setCell _ _ _=U
   obtain ⟨u0,u1,hBU,hOU⟩:=two_set hR4 hU
   exact bodyPost_ret (v:=.tuple #[.agg #[.slice none 0 0,.slice none 0 0],.int .i64 E]) (by simp [results,Tryz.results10,go_sem,u0,u1]) rfl ⟨_,_,_,_,_,_,rfl,OwnK.nil _ _ _ _,LyO.nil _ _,hBU w _ (Nat.le_refl _) HB4.out⟩
end Go.Proofs.YtiampagapgjedaaGreatDoor.Wd
namespace Go.Proofs
open Go.Shelf
def Tryz.laysM171_ren:Go.Shelf.Ren:=⟨fun|171=>72|243=>98|246=>125|283=>137|284=>138|285=>139|286=>140|129=>160|317=>159|318=>161|319=>162|320=>163|337=>185|338=>186|n=>n,fun|3=>3|9=>9|2=>2|4=>4|171=>196|0=>0|53=>130|37=>162|5=>5|173=>199|212=>209|51=>210|20=>20|213=>211|46=>189|232=>255|233=>256|n=>n,fun|17=>1|18=>3|19=>4|n=>n⟩
theorem Tryz.laysM171:Go.Proofs.LaysM.n171 Tryz.prog Tryz.laysM171_ren:={
 mixed:=by kernel_rfl
 f129:=Tryz.func160.trans (congrArg some (by kernel_rfl))
 f171:=Tryz.func72.trans (congrArg some (by kernel_rfl))
 f243:=Tryz.func98.trans (congrArg some (by kernel_rfl))
 f246:=Tryz.func125.trans (congrArg some (by kernel_rfl))
 f283:=Tryz.func137.trans (congrArg some (by kernel_rfl))
 f284:=Tryz.func138.trans (congrArg some (by kernel_rfl))
 f285:=Tryz.func139.trans (congrArg some (by kernel_rfl))
 f286:=Tryz.func140.trans (congrArg some (by kernel_rfl))
 f317:=Tryz.func159.trans (congrArg some (by kernel_rfl))
 f318:=Tryz.func161.trans (congrArg some (by kernel_rfl))
 f319:=Tryz.func162.trans (congrArg some (by kernel_rfl))
 f320:=Tryz.func163.trans (congrArg some (by kernel_rfl))
 f337:=Tryz.func185.trans (congrArg some (by kernel_rfl))
 f338:=Tryz.func186.trans (congrArg some (by kernel_rfl))
 t0:=Tryz.underlying0
 a0:=Tryz.isAgg0
 z0:=Tryz.sizeOf0
 v0:=Tryz.zeroValue0
 t2:=Tryz.underlying2
 a2:=Tryz.isAgg2
 z2:=Tryz.sizeOf2
 v2:=Tryz.zeroValue2
 t3:=Tryz.underlying3
 a3:=Tryz.isAgg3
 z3:=Tryz.sizeOf3
 v3:=Tryz.zeroValue3
 t4:=Tryz.underlying4
 a4:=Tryz.isAgg4
 z4:=Tryz.sizeOf4
 v4:=Tryz.zeroValue4
 t5:=Tryz.underlying5
 a5:=Tryz.isAgg5
 z5:=Tryz.sizeOf5
 v5:=Tryz.zeroValue5
 t9:=Tryz.underlying9
 a9:=Tryz.isAgg9
 z9:=Tryz.sizeOf9
 v9:=Tryz.zeroValue9
 t20:=Tryz.underlying20
 a20:=Tryz.isAgg20
 z20:=Tryz.sizeOf20
 v20:=Tryz.zeroValue20
 t37:=Tryz.underlying162
 a37:=Tryz.isAgg162
 z37:=Tryz.sizeOf162
 v37:=Tryz.zeroValue162
 t46:=Tryz.underlying189
 a46:=Tryz.isAgg189
 z46:=Tryz.sizeOf189
 v46:=Tryz.zeroValue189
 t51:=Tryz.underlying210
 a51:=Tryz.isAgg210
 z51:=Tryz.sizeOf210
 v51:=Tryz.zeroValue210
 t53:=Tryz.underlying130
 a53:=Tryz.isAgg130
 z53:=Tryz.sizeOf130
 v53:=Tryz.zeroValue130
 t171:=Tryz.underlying196
 a171:=Tryz.isAgg196
 z171:=Tryz.sizeOf196
 v171:=Tryz.zeroValue196
 t173:=Tryz.underlying199
 a173:=Tryz.isAgg199
 z173:=Tryz.sizeOf199
 v173:=Tryz.zeroValue199
 t212:=Tryz.underlying209
 a212:=Tryz.isAgg209
 z212:=Tryz.sizeOf209
 v212:=Tryz.zeroValue209
 t213:=Tryz.underlying211
 a213:=Tryz.isAgg211
 z213:=Tryz.sizeOf211
 t232:=Tryz.underlying255
 a232:=Tryz.isAgg255
 z232:=Tryz.sizeOf255
 v232:=Tryz.zeroValue255
 t233:=Tryz.underlying256
 a233:=Tryz.isAgg256
 z233:=Tryz.sizeOf256
 v233:=Tryz.zeroValue256
 g17:=by kernel_rfl
 g18:=by kernel_rfl
 g19:=by kernel_rfl
 i0:=by kernel_rfl
 i2:=by kernel_rfl
 i3:=by kernel_rfl
 i4:=by kernel_rfl
 i5:=by kernel_rfl
 i9:=by kernel_rfl
 i20:=by kernel_rfl
 i37:=by kernel_rfl
 i46:=by kernel_rfl
 i51:=by kernel_rfl
 i53:=by kernel_rfl
 i171:=by kernel_rfl
 i173:=by kernel_rfl
 i212:=by kernel_rfl
 i232:=by kernel_rfl
 i233:=by kernel_rfl
 m17:=by kernel_rfl
 m18:=by kernel_rfl
 m19:=by kernel_rfl }
open Go.RowKit Go.Sort Go.Lib in
theorem Tryz.strconv_Itoa (n : Int) (h0 : -9223372036854775808 ≤ n) (h1 : n ≤ 9223372036854775807) (w : World) (htab : Lib.TabIs Tryz.prog w "internal/strconv.uint64pow10" .u64 Lib.pow10Tab) :
  Calls Tryz.prog 72 #[.int .i64 n] w fun e w'=>e = .returned (.string ⟨(Lib.itoa n).toArray⟩)∧∃ k os,w'=grow (w.drewN k) os:=Any.strconv_Itoa Tryz.laysM171 n h0 h1 w htab
end Go.Proofs
