/- Tensors: what matm.Mul hands back. -/
import Derived.Test.YtaiigfhicaelkabGreatDoorW08
import Derived.Test.YtaiigfhicaelkabGreatDoorW09
set_option linter.unusedVariables false
set_option linter.unusedSimpArgs false
set_option maxHeartbeats 16000000
set_option maxRecDepth 16000
namespace Go.Proofs.YtaiigfhicaelkabGreatDoor.Wd
open Go.RowKit Fx
/-- Two matrices that can be multiplied. -/
abbrev mP (d x d' y:List Int):Prop:=(isP d x∧isP d' y)∧d'.length=2∧d.length=2∧d.getD 1 0=d'.getD 0 0
abbrev mG (d d':List Int):Prop:=goodN (ntl [d.getD 0 0,d'.getD 1 0])
def mE (d x d' y:List Int):Int:=if isP d x∧isP d' y then if mP d x d' y then if mG d d' then 0 else 2 else 4 else 1
def mD (d x d' y:List Int):List Int:=if mP d x d' y∧mG d d' then [d.getD 0 0,d'.getD 1 0] else []
def mV (d x d' y:List Int):List Int:=if mP d x d' y∧mG d d' then mulV (d.getD 0 0).toNat (d.getD 1 0).toNat (d'.getD 1 0).toNat x y else []
theorem m_arg {d x d' y:List Int} (h:¬ (isP d x∧isP d' y)):mE d x d' y=1∧mD d x d' y = []∧mV d x d' y = []:=⟨if_neg h,if_neg fun c=>h c.1.1,if_neg fun c=>h c.1.1⟩
theorem m_shape {d x d' y:List Int} (h1:isP d x∧isP d' y) (h:¬ mP d x d' y):mE d x d' y=4∧mD d x d' y = []∧mV d x d' y = []:=by
 refine ⟨?_,if_neg fun c=>h c.1,if_neg fun c=>h c.1⟩
 unfold mE
 rw [if_pos h1,if_neg h]
theorem m_limit {d x d' y:List Int} (h:mP d x d' y) (hg:¬ mG d d'):mE d x d' y=2∧mD d x d' y = []∧mV d x d' y = []:=by
 refine ⟨?_,if_neg fun c=>hg c.2,if_neg fun c=>hg c.2⟩
 unfold mE
 rw [if_pos h.1,if_pos h,if_neg hg]
theorem m_fine {d x d' y:List Int} (h:mP d x d' y) (hg:mG d d'):mE d x d' y=0∧mD d x d' y = [d.getD 0 0,d'.getD 1 0]∧mV d x d' y=mulV (d.getD 0 0).toNat (d.getD 1 0).toNat (d'.getD 1 0).toNat x y:=by
 refine ⟨?_,if_pos ⟨h,hg⟩,if_pos ⟨h,hg⟩⟩
 unfold mE
 rw [if_pos h.1,if_pos h,if_pos hg]
/-- A number of the product is the Dot of a's row and of a row of b turned round. -/
theorem mul_rows {K M:Nat} {x y:List Int} (i:Nat) (hi:i % M < M):mulN K M x y i=dotI ((List.range K).map fun j=>x.getD (i / M*K+j) 0) ((List.range K).map fun j=>(flipV K M y).getD (i % M*K+j) 0):=by
 unfold mulN dotI dotS
 rw [List.length_map,List.length_map,List.length_range,Nat.min_self]
 congr 1
 refine sumI_congr K fun q hq=>?_
 rw [getD_map_range _ _ _ _ hq,getD_map_range _ _ _ _ hq,flipV_at K M y _ (by rw [Nat.mul_comm K M];exact pair_lt hi hq),flip_pair hq]
theorem mul_any (p p2 p3 p4:Option Addr) (n c n2 c2 n3 c3 n4 c4:Nat) (d x d' y:List Int) (hd:RI d) (hx:RI x) (hd':RI d') (hy:RI y) (w:World) (hT:Hid (Tz w)) (hc2:n2≤c2) (h1:Nums .i64 w (.slice p n c) d) (h2:Nums .i64 w (.slice p2 n2 c2) x) (h3:Nums .i64 w (.slice p3 n3 c3) d') (h4:Nums .i64 w (.slice p4 n4 c4) y):
  Calls Tryz.prog 46 #[.agg #[.slice p n c,.slice p2 n2 c2],.agg #[.slice p3 n3 c3,.slice p4 n4 c4]] w fun e w'=>∃ v',e = .returned (.tuple #[v',.int .i64 (mE d x d' y)])∧TRes w' w.heap.size v' (mD d x d' y) (mV d x d' y)∧Below w.heap.size w w':=by
 have cA:=fun W (hW:Below w.heap.size w W)=>tgood_any _ _ d x hd W (h1.up hW) (h2.up hW)
 have cB:=fun W (hW:Below w.heap.size w W)=>tgood_any _ _ d' y hd' W (h3.up hW) (h4.up hW)
 have cF:=fun W (hW:Below w.heap.size w W)=>flip_any _ _ _ _ _ _ d' y hd' W (h3.up hW) (h4.up hW)
 obtain ⟨_,_,_,e4,HD⟩:=h1.lst
 cases e4
 obtain ⟨_,_,_,e4,HD'⟩:=h3.lst
 cases e4
 have HN:Hid (Nums .i64 w (.slice p n c) d∧Nums .i64 w (.slice p2 n2 c2) x):=⟨h1,h2⟩
 haveI:Nonempty World:=⟨w⟩
 by_cases hp:isP d x
 ·rw [decide_eq_true hp] at cA
  by_cases hq:isP d' y
  ·rw [decide_eq_true hq] at cB
   have hpq:isP d x∧isP d' y:=⟨hp,hq⟩
   have hn4:n≤4:=by have:=hp.1.1;rw [ntl_len,HD.out.1] at this;exact this
   have hn4':(n:Int)≤4:=by omega
   obtain ⟨FD,eFD⟩:∃ D,flD d' y=D:=⟨_,rfl⟩
   obtain ⟨FV,eFV⟩:∃ V,flV d' y=V:=⟨_,rfl⟩
   rw [eFD,eFV] at cF
   by_cases hn3:n3=2
   ·have eFE:flE d' y=0:=by unfold flE;rw [if_pos hq,if_pos (by rw [HD'.out.1];exact hn3)]
    rw [eFE] at cF
    subst hn3
    by_cases hn:n=2
    ·subst hn
     obtain ⟨D0,D1,rfl,hx0,k0,k1,k2⟩:=two_sides hp HD.out.1
     obtain ⟨E0,E1,rfl,hy0,l0,l1,l2⟩:=two_sides hq HD'.out.1
     have HDc:Hid ((∃ q o,p=some ⟨q,o,none⟩∧w.cell? ⟨q,o,none⟩=some (.int .i64 (D0:Int))∧w.cell? ⟨q,o+1,none⟩=some (.int .i64 (D1:Int)))∧(∃ q o,p3=some ⟨q,o,none⟩∧w.cell? ⟨q,o,none⟩=some (.int .i64 (E0:Int))∧w.cell? ⟨q,o+1,none⟩=some (.int .i64 (E1:Int)))):=by
      obtain ⟨q,o,rfl,hA0⟩:=HD.out.2 0 (by omega)
      obtain ⟨q',o',e',hA1⟩:=HD.out.2 1 (by omega)
      cases e'
      obtain ⟨r,s,rfl,hB0⟩:=HD'.out.2 0 (by omega)
      obtain ⟨r',s',e',hB1⟩:=HD'.out.2 1 (by omega)
      cases e'
      exact ⟨⟨_,_,rfl,hA0,hA1⟩,_,_,rfl,hB0,hB1⟩
     obtain ⟨⟨qa,oa,rfl,ca0,ca1⟩,qb,ob,rfl,cb0,cb1⟩:=HDc.out
     have zD:D0≤4096∧D1≤4096:=⟨by have:=Nat.mul_le_mul_left D0 k1;omega,by have:=Nat.mul_le_mul_right D1 k0;omega⟩
     have zE:E0≤4096∧E1≤4096:=⟨by have:=Nat.mul_le_mul_left E0 l1;omega,by have:=Nat.mul_le_mul_right E1 l0;omega⟩
     have zD':(D0:Int)≤4096∧(D1:Int)≤4096:=by omega
     have zE':(E0:Int)≤4096∧(E1:Int)≤4096:=by omega
     by_cases hm:D1=E0
     ·subst hm
      have hmP:mP [(D0:Int),(D1:Int)] x [(D1:Int),(E1:Int)] y:=⟨hpq,rfl,rfl,rfl⟩
      have hFD:FD = [(E1:Int),(D1:Int)]∧FV=flipV D1 E1 y:=by
       rw [← eFD,← eFV]
       unfold flD flV
       rw [if_pos ⟨hq,rfl⟩,if_pos ⟨hq,rfl⟩]
       exact ⟨rfl,rfl⟩
      obtain ⟨rfl,rfl⟩:=hFD
      obtain ⟨E,eE⟩:∃ E,newE [(D0:Int),(E1:Int)]=E:=⟨_,rfl⟩
      obtain ⟨DD,eDD⟩:∃ E,newD [(D0:Int),(E1:Int)]=E:=⟨_,rfl⟩
      obtain ⟨VV,eVV⟩:∃ E,newV [(D0:Int),(E1:Int)] 0=E:=⟨_,rfl⟩
      have cN:Hid (∀ B W v,B≤W.heap.size→LitN [(D0:Int),(E1:Int)] v W→Calls Tryz.prog 57 #[v,.int .i64 0] W fun e w'=>∃ u,e = .returned u∧TupP B DD VV E u w'∧Below W.heap.size W w'):=fun B W v hB hv=>by
       obtain ⟨g,rfl,hn⟩:=hv
       rw [← eE,← eDD,← eVV]
       refine (tnew_any _ [(D0:Int),(E1:Int)] (fun q hq=>by simp at hq;omega) 0 W hn).mono ?_
       rintro e w' ⟨u,rfl,h,hb⟩
       exact ⟨_,rfl,⟨u,rfl,(h.low hB).own⟩,hb⟩
      have HXY:Hid (RI x∧RI y∧x.length=D0*D1∧y.length=D1*E1∧1≤D0∧1≤D1∧1≤E1∧D0*D1≤4096∧D1*E1≤4096):=⟨hx,hy,hx0,hy0,k0,k1,l1,k2,l2⟩
      have HE:Hid (newE [(D0:Int),(E1:Int)]=E∧newD [(D0:Int),(E1:Int)]=DD∧newV [(D0:Int),(E1:Int)] 0=VV∧mP [(D0:Int),(D1:Int)] x [(D1:Int),(E1:Int)] y):=⟨eE,eDD,eVV,hmP⟩
      have hne:((D1:Int) != (D1:Int))=false:=by simp
      obtain ⟨mEv,emE⟩:∃ e,mE [(D0:Int),(D1:Int)] x [(D1:Int),(E1:Int)] y=e:=⟨_,rfl⟩
      obtain ⟨mDv,emD⟩:∃ e,mD [(D0:Int),(D1:Int)] x [(D1:Int),(E1:Int)] y=e:=⟨_,rfl⟩
      obtain ⟨mVv,emV⟩:∃ e,mV [(D0:Int),(D1:Int)] x [(D1:Int),(E1:Int)] y=e:=⟨_,rfl⟩
      rw [emE,emD,emV]
      have HM:Hid (mE [(D0:Int),(D1:Int)] x [(D1:Int),(E1:Int)] y=mEv∧mD [(D0:Int),(D1:Int)] x [(D1:Int),(E1:Int)] y=mDv∧mV [(D0:Int),(D1:Int)] x [(D1:Int),(E1:Int)] y=mVv):=⟨emE,emD,emV⟩
      clear emE emD emV eE eDD eVV hmP hp hq hpq hd hx hd' hy h1 h2 h3 h4 HD HD' eFE eFD eFV hx0 hy0 HDc l0 k0 k1 l1 k2 l2
      go_enter Tryz.func46,Tryz.ntmps46
      go_wp2_with fail
      generalize hW0:World.alloc _ _=W0
      have HB0:=hidB (w:=w) hW0 (by go_grown)
      have XA:Hid (Cel W0 w.heap.size (.slice (some ⟨qa,oa,none⟩) 2 c) (.slice p2 n2 c2)):=celW hW0 (by simp [go_sem])
      have XB:Hid (Cel W0 (w.heap.size+1) (.slice (some ⟨qb,ob,none⟩) 2 c3) (.slice p4 n4 c4)):=celW hW0 (by simp [go_sem])
      have XR:Hid (Cel W0 (w.heap.size+1+1) (.slice none 0 0) (.slice none 0 0)):=celW hW0 (by simp [go_sem])
      clear hW0
      refine (cA W0 HB0.out).mono ?_
      rintro e w1 ⟨rfl,hB1⟩
      have HB1:=hid2 (bstep HB0.out hB1) hB1
      clear hB1 cA
      obtain ⟨b0,b1,_,_⟩:=XB.out.up HB1.out.2
      go_wp2_with fail
      refine (cB w1 HB1.out.1).mono ?_
      rintro e w2 ⟨rfl,hB2⟩
      have HB2:=hid2 (bstep HB1.out.1 hB2) (bstep HB1.out.2 hB2)
      clear hB2 cB b0 b1 HB1
      obtain ⟨b0,b1,_,_⟩:=XB.out.up HB2.out.2
      go_wp2_with fail
      refine (cF w2 HB2.out.1).mono ?_
      rintro e w3 ⟨v3,rfl,⟨s3,t3,rfl,hs3,ht3⟩,hB3⟩
      obtain ⟨p6,n6,c6,rfl,_⟩:=hs3.nums.lst
      obtain ⟨p7,n7,c7,rfl,_⟩:=ht3.nums.lst
      have HB3:=hid2 (bstep HB2.out.1 hB3) (bstep HB2.out.2 hB3)
      have HF3:Hid (OwnK .i64 3 w3 w2.heap.size (.slice p6 n6 c6) [(E1:Int),(D1:Int)]∧OwnK .i64 22 w3 w2.heap.size (.slice p7 n7 c7) (flipV D1 E1 y)∧W0.heap.size≤w2.heap.size):=⟨hs3,ht3,HB2.out.2.size⟩
      clear hB3 hs3 ht3 cF b0 b1 HB2
      go_wp2_with fail
      generalize hW4:World.alloc _ _=W4
      have hB4:Below w3.heap.size w3 W4:=by rw [← hW4];exact up_alloc w3 _
      have X6:Hid (Cel W4 w3.heap.size (.slice p6 n6 c6) (.slice p7 n7 c7)):=by show Cel _ _ _ _;unfold Cel;rw [← hW4];simp [go_sem]
      have HB4:=hid2 (bstep HB3.out.1 hB4) (bstep HB3.out.2 hB4)
      have HF4:Hid (OwnK .i64 3 W4 w2.heap.size (.slice p6 n6 c6) [(E1:Int),(D1:Int)]∧OwnK .i64 22 W4 w2.heap.size (.slice p7 n7 c7) (flipV D1 E1 y)∧W0.heap.size≤w2.heap.size):=⟨HF3.out.1.up hB4,HF3.out.2.1.up hB4,HF3.out.2.2⟩
      clear hW4 hB4 HB3 HF3
      obtain ⟨a0,a1,_,_⟩:=XA.out.up HB4.out.2
      obtain ⟨b0,b1,_,_⟩:=XB.out.up HB4.out.2
      have a9:=cell_lt a0
      have b9:=cell_lt b0
      have ua0:=cell_low ca0 HB4.out.1
      have ua1:=cell_low ca1 HB4.out.1
      have ub0:=cell_low cb0 HB4.out.1
      have ub1:=cell_low cb1 HB4.out.1
      have ua9:=cell_lt ua0
      have ub9:=cell_lt ub0
      go_quiet (fail)
      generalize hw5:World.drewN W4 nq=w5
      have HB5:Hid (Below w.heap.size w w5∧Below W0.heap.size W0 w5):=by rw [← hw5];exact ⟨below_drew HB4.out.1 nq,below_drew HB4.out.2 nq⟩
      have hB5:Below W4.heap.size W4 w5:=by rw [← hw5];exact below_drew (Below.refl _ _) nq
      have X6':Hid (Cel w5 w3.heap.size (.slice p6 n6 c6) (.slice p7 n7 c7)):=X6.out.up hB5
      have HF5:Hid (OwnK .i64 3 w5 w2.heap.size (.slice p6 n6 c6) [(E1:Int),(D1:Int)]∧OwnK .i64 22 w5 w2.heap.size (.slice p7 n7 c7) (flipV D1 E1 y)∧W0.heap.size≤w2.heap.size):=⟨HF4.out.1.up hB5,HF4.out.2.1.up hB5,HF4.out.2.2⟩
      clear hw5 hB5 X6 HF4 HB4 a0 a1 b0 b1 a9 b9 ua0 ua1 ub0 ub1 ua9 ub9
      obtain ⟨a0,a1,_,_⟩:=XA.out.up HB5.out.2
      obtain ⟨b0,b1,_,_⟩:=XB.out.up HB5.out.2
      have ua0:=cell_low ca0 HB5.out.1
      have ub1:=cell_low cb1 HB5.out.1
      have a9:=cell_lt a0
      have b9:=cell_lt b0
      have ua9:=cell_lt ua0
      have ub9:=cell_lt ub1
      go_wp2_with fail
      refine relE [⟨8,53,LitN [(D0:Int),(E1:Int)]⟩,⟨9,54,TupP w5.heap.size DD VV E⟩,⟨10,44,TupP w5.heap.size DD VV E⟩,⟨11,55,OwnT w5.heap.size DD VV⟩,⟨13,8,NewC w5.heap.size⟩] 14 89 (by kernel_rfl) rfl rfl 12 _ rfl (by decide) rfl (by kernel_rfl) (by kernel_rfl) (fun _ _ _ _ h=>h) (by rfl) ?_ ?_
      ·intro e he v W W' h hb
       simp only [List.mem_cons,List.not_mem_nil,or_false] at he
       rcases he with rfl|rfl|rfl|rfl|rfl
       ·exact LitN.up h hb
       ·exact TupP.up h hb
       ·exact TupP.up h hb
       ·exact OwnT.up h hb
       ·exact NewC.up h hb
      apply Exists.intro
      refine ⟨?yl1,?wk1,?pk1,?rest1⟩
      case wk1=>
       intro x
       simp only [List.take_succ_cons,List.take_zero]
       iterate 8
        refine relQuiet rfl rfl ?_
        apply Exists.intro
        refine ⟨fun F hF hf K hK=>?_,?_⟩
        ·have hFc:=hF.cell
         have hFf:=hF.frozen
         go_big_quiet_op
         exact hK
        (try simp only [putL])
       refine relTold rfl rfl ?_ ?_
       ·intro F hF hf d
        have hFc:=hF.cell
        have hFf:=hF.frozen
        simp [yieldsR,yieldsUpon,go_sem]
        exact ⟨⟨(F d).heap.size,rfl,nums_lit (k:=.i64) (F d) [(D0:Int),(E1:Int)] 2 (0,0) rfl⟩,up_alloc _ _⟩
       (try simp only [putL])
       refine relTold rfl rfl ?_ ?_
       ·intro F hF hf d
        have hFc:=hF.cell
        have hFf:=hF.frozen
        have h9:=hf _ List.mem_cons_self (by rfl) d
        simp [yieldsR,yieldsUpon,go_sem]
        refine (cN.out w5.heap.size (F d) _ (hF.below d).size h9).mono ?_
        rintro e' w8 ⟨v8,rfl,h8,hb8⟩
        exact ⟨_,rfl,h8,hb8⟩
       (try simp only [putL])
       refine relTold rfl rfl ?_ ?_
       ·intro F hF hf d
        have hFc:=hF.cell
        have hFf:=hF.frozen
        have h9:=hf _ (List.mem_cons_of_mem _ List.mem_cons_self) (by rfl) d
        simp [yieldsR,yieldsUpon,go_sem]
        exact ⟨h9,Below.refl _ _⟩
       (try simp only [putL])
       refine relTold rfl rfl ?_ ?_
       ·intro F hF hf d
        have hFc:=hF.cell
        have hFf:=hF.frozen
        have h9:=hf _ (List.mem_cons_of_mem _ (List.mem_cons_of_mem _ List.mem_cons_self)) (by rfl) d
        obtain ⟨u9,e9,o9⟩:=h9
        simp only [] at e9
        simp [yieldsR,yieldsUpon,go_sem,e9]
        exact ⟨o9,Below.refl _ _⟩
       (try simp only [putL])
       refine relQuiet rfl rfl ?_
       apply Exists.intro
       refine ⟨fun F hF hf K hK=>?_,?_⟩
       ·have hFc:=hF.cell
        have hFf:=hF.frozen
        have h9:=hf _ (List.mem_cons_of_mem _ (List.mem_cons_of_mem _ List.mem_cons_self)) (by rfl)
        obtain ⟨u9,e9,_⟩:=h9 w
        simp only [] at e9
        go_big_quiet_op
        exact hK
       (try simp only [putL])
       refine relTold rfl rfl ?_ ?_
       ·intro F hF hf d
        have hFc:=hF.cell
        have hFf:=hF.frozen
        simp [yieldsR,yieldsUpon,go_sem]
        exact ⟨⟨(F d).heap.size,rfl,by show ((F d).heap.push _)[(F d).heap.size]?=_;simp,(hF.below d).size⟩,up_alloc _ _⟩
       (try simp only [putL])
       refine relEnd ?_
       exact rfl
      case pk1=>
       intro x
       simp only [putsK,List.foldl_cons,List.foldl_nil,Act.put,List.setIfInBounds_toArray,List.set_cons_zero,List.set_cons_succ]
      case yl1=>
       intro x hx
       obtain ⟨W9,u9,e9,_⟩:=hx _ (List.mem_cons_of_mem _ (List.mem_cons_of_mem _ List.mem_cons_self)) (by rfl)
       simp only [] at e9
       refine ⟨.int .i64 E,fun t ht=>?_,.inl ⟨by rfl,fun w=>?_⟩⟩
       ·cases ht
        rfl
       ·simp [execOp,Act.eval,e9,go_sem]
      intro z1 xs hBz1 hf
      simp only [List.drop_succ_cons,List.drop_zero]
      have hT1:=hf _ (List.mem_cons_of_mem _ (List.mem_cons_of_mem _ (List.mem_cons_of_mem _ List.mem_cons_self)))
      have hN:=hf _ (List.mem_cons_of_mem _ (List.mem_cons_of_mem _ (List.mem_cons_of_mem _ (List.mem_cons_of_mem _ List.mem_cons_self))))
      obtain ⟨pa1,na1,ca_1,pb1,nb1,cb_1,ev,o1,o2⟩:=hT1
      obtain ⟨g8,eb,hb1,hb2⟩:=hN
      simp only [] at ev eb
      obtain ⟨x8,e8⟩:∃ q,xs 8=q:=⟨_,rfl⟩
      obtain ⟨x9,e9⟩:∃ q,xs 9=q:=⟨_,rfl⟩
      obtain ⟨x10,e10⟩:∃ q,xs 10=q:=⟨_,rfl⟩
      simp only [ev,eb,e8,e9,e10]
      have cbl:=new_cel hb1
      have f1:=o1.off_type hb1 (by decide)
      have f2:=o2.off_type hb1 (by decide)
      have hS:Below w5.heap.size w5 (set2 z1 g8 (.slice pa1 na1 ca_1) (.slice pb1 nb1 cb_1)):=below_set2 hBz1 g8 hb2 _ _
      have HO:Hid (OwnK .i64 3 (set2 z1 g8 (.slice pa1 na1 ca_1) (.slice pb1 nb1 cb_1)) w5.heap.size (.slice pa1 na1 ca_1) DD∧OwnK .i64 22 (set2 z1 g8 (.slice pa1 na1 ca_1) (.slice pb1 nb1 cb_1)) w5.heap.size (.slice pb1 nb1 cb_1) VV∧Off g8 (.slice pb1 nb1 cb_1)∧w5.heap.size≤g8):=⟨o1.stay (Stay.set2 _ _ _) f1,o2.stay (Stay.set2 _ _ _) f2,f2,hb2⟩
      have hC:Cel (set2 z1 g8 (.slice pa1 na1 ca_1) (.slice pb1 nb1 cb_1)) g8 (.slice pa1 na1 ca_1) (.slice pb1 nb1 cb_1):=(new_cel hb1).set _ _
      have HBz:Hid (Below w.heap.size w (set2 z1 g8 (.slice pa1 na1 ca_1) (.slice pb1 nb1 cb_1))∧Below W0.heap.size W0 (set2 z1 g8 (.slice pa1 na1 ca_1) (.slice pb1 nb1 cb_1))∧Below w5.heap.size w5 (set2 z1 g8 (.slice pa1 na1 ca_1) (.slice pb1 nb1 cb_1))):=⟨bstep HB5.out.1 hS,bstep HB5.out.2 hS,hS⟩
      have HC8:Hid (Cel (set2 z1 g8 (.slice pa1 na1 ca_1) (.slice pb1 nb1 cb_1)) g8 (.slice pa1 na1 ca_1) (.slice pb1 nb1 cb_1)):=hC
      obtain ⟨c0,c1,c2_,c3_⟩:=cbl
      have cz:=cell_lt c0
      clear hf e8 e9 e10 ev eb f1 f2 o1 o2 cN a0 a1 b0 b1 ua0 ub1 a9 b9 ua9 ub9 hS hb2 hBz1 hC hb1
      by_cases hg:goodN (ntl [(D0:Int),(E1:Int)])
      ·obtain ⟨f1,f2,f3⟩:=m_fine HE.out.2.2.2 hg
       have g1:=good_two.1 hg
       have hE:E=0:=by rw [← HE.out.1];exact if_pos hg
       have hDD:DD = [(D0:Int),(E1:Int)]:=by rw [← HE.out.2.1];exact if_pos hg
       have hVV:VV=List.replicate (D0*E1) 0:=by
        rw [← HE.out.2.2.1]
        have e:prodN (ntl [(D0:Int),(E1:Int)])=D0*E1:=by rw [show ntl [(D0:Int),(E1:Int)] = [D0,E1] from ntl_itl [D0,E1]];simp [prodN]
        unfold newV
        rw [if_pos hg,e]
       obtain ⟨NM,eNM⟩:∃ NM,D0*E1=NM:=⟨_,rfl⟩
       rw [eNM] at hVV g1
       subst hE hDD hVV
       have hv1:mEv=0:=by rw [← HM.out.1];exact f1
       have hv2:mDv = [(D0:Int),(E1:Int)]:=by rw [← HM.out.2.1];exact f2
       subst hv1 hv2
       have HV:Hid (mVv=mulV D0 D1 E1 x y∧mVv.length=NM∧D0*E1=NM):=by
        refine ⟨?_,?_,eNM⟩
        ·rw [← HM.out.2.2,f3];rfl
        ·rw [← HM.out.2.2,f3]
         show (mulV D0 D1 E1 x y).length=NM
         rw [mulV_len,eNM]
       obtain ⟨gv,cv,ev,hgv⟩:=HO.out.2.1.at (by rw [List.length_replicate];have:=Nat.mul_le_mul g1.1 g1.2.1;omega)
       rw [List.length_replicate] at ev
       injection ev with i1 i2 i3
       have i2':=i2.symm
       have i3':=i3.symm
       subst i1 i2' i3'
       have hNM:1≤NM∧NM≤4096:=⟨by rw [← eNM];exact Nat.mul_le_mul g1.1 g1.2.1,g1.2.2⟩
       have hNM':1≤(NM:Int)∧(NM:Int)≤4096:=by omega
       clear f1 f2 f3 hg eNM
       obtain ⟨Wz,hWz⟩:∃ Wz,set2 z1 g8 (.slice pa1 na1 ca_1) (.slice (some ⟨gv,0,none⟩) NM cv)=Wz:=⟨_,rfl⟩
       rw [hWz] at HO HBz HC8
       obtain ⟨q0,q1,_,_⟩:=HC8.out
       have q9:=cell_lt q0
       go_wp2_with fail
       clear q0 q1 q9 hWz c0 c1 c2_ c3_ cz
       have HO5:Hid (OwnK .i64 22 Wz w5.heap.size (.slice (some ⟨gv,0,none⟩) NM cv) (rowF mVv 0)):=by
        show OwnK _ _ _ _ _ _
        rw [rowF_zero,HV.out.2.1]
        exact HO.out.2.1
       have Hg:Hid (w5.heap.size≤gv∧gv≠g8∧w3.heap.size < w5.heap.size∧W0.heap.size≤w5.heap.size∧w.heap.size+1+1 < W0.heap.size):=⟨hgv,HO.out.2.2.1 _ _ _ rfl,cell_lt X6'.out.1,HB5.out.2.size,cell_lt XR.out.1⟩
       clear hgv
       go_loopg [63] NM (fun gg i wr=>∃ (k:Nat),k≤NM∧gg=NM - k∧i = .int .i64 (k:Int)∧Hid (OwnK .i64 22 wr w5.heap.size (.slice (some ⟨gv,0,none⟩) NM cv) (rowF mVv k))∧Hid (Below w.heap.size w wr∧Stay gv Wz wr))
       case atStart=>exact ⟨0,by omega,by omega,by first|rfl|simp,HO5,HBz.out.1,Stay.refl _ _⟩
       case round=>
        obtain ⟨k,hk,hg,rfl,HRk,hBS⟩:=hrel
        obtain ⟨R1,hR1⟩:∃ R1:World,R1=wr:=⟨_,rfl⟩
        subst hR1
        have xA:Cel R1 w.heap.size (.slice (some ⟨qa,oa,none⟩) 2 c) (.slice p2 n2 c2):=(XA.out.up HBz.out.2.1).stay hBS.out.2 (by have:=Hg.out;omega)
        have xB:Cel R1 (w.heap.size+1) (.slice (some ⟨qb,ob,none⟩) 2 c3) (.slice p4 n4 c4):=(XB.out.up HBz.out.2.1).stay hBS.out.2 (by have:=Hg.out;omega)
        have xR:Cel R1 (w.heap.size+1+1) (.slice none 0 0) (.slice none 0 0):=(XR.out.up HBz.out.2.1).stay hBS.out.2 (by have:=Hg.out;omega)
        have x6:Cel R1 w3.heap.size (.slice p6 n6 c6) (.slice p7 n7 c7):=(X6'.out.up HBz.out.2.2).stay hBS.out.2 (by have:=Hg.out;omega)
        have x8:Cel R1 g8 (.slice pa1 na1 ca_1) (.slice (some ⟨gv,0,none⟩) NM cv):=HC8.out.stay hBS.out.2 (by have:=Hg.out;omega)
        by_cases hkn:k < NM
        ·have hk':(k:Int) < (NM:Int):=by omega
         have ub1:=cell_low cb1 hBS.out.1
         have ub9:=cell_lt ub1
         have hE1:=HXY.out.2.2.2.2.2.2.1
         have hE1':1≤(E1:Int):=by omega
         obtain ⟨I,eI⟩:∃ I,k / E1=I:=⟨_,rfl⟩
         obtain ⟨J,eJ⟩:∃ J,k % E1=J:=⟨_,rfl⟩
         have hI:I < D0:=by rw [← eI];exact Nat.div_lt_of_lt_mul (by rw [Nat.mul_comm,HV.out.2.2];exact hkn)
         have hJ:J < E1:=by rw [← eJ];exact Nat.mod_lt _ hE1
         have eI':(k:Int) / (E1:Int)=(I:Int):=by rw [← eI];rfl
         have eJ':(k:Int) % (E1:Int)=(J:Int):=by rw [← eJ];rfl
         obtain ⟨r1,er1⟩:=row_is p2 I D1 c2
         obtain ⟨r2,er2⟩:=row_is p7 J D1 c7
         have nA:∀ W,Below R1.heap.size R1 W→Nums .i64 W (.slice (some ⟨qa,oa,none⟩) 2 c) [(D0:Int),(D1:Int)]∧Nums .i64 W (.slice p2 n2 c2) x:=fun W hW=>⟨HN.out.1.up (bstep hBS.out.1 hW),HN.out.2.up (bstep hBS.out.1 hW)⟩
         have o6:OwnK .i64 3 R1 w2.heap.size (.slice p6 n6 c6) [(E1:Int),(D1:Int)]:=(HF5.out.1.up HBz.out.2.2).stay hBS.out.2 (HF5.out.1.off_new Hg.out.1)
         have o7:OwnK .i64 22 R1 w2.heap.size (.slice p7 n7 c7) (flipV D1 E1 y):=(HF5.out.2.1.up HBz.out.2.2).stay hBS.out.2 (HF5.out.2.1.off_new Hg.out.1)
         have fl1:(flipV D1 E1 y).length=E1*D1:=by rw [flipV_len,Nat.mul_comm]
         have fl2:(flipV D1 E1 y).length≤4096:=by rw [flipV_len];exact HXY.out.2.2.2.2.2.2.2.2
         have fl3:RI (flipV D1 E1 y):=fun q hq=>by
          obtain ⟨i,_,rfl⟩:=List.mem_map.1 hq
          exact getD_inR HXY.out.2.1 _
         have cR1:Hid (∀ W,Below R1.heap.size R1 W→Calls Tryz.prog 90 #[.agg #[.slice (some ⟨qa,oa,none⟩) 2 c,.slice p2 n2 c2],.int .i64 (I:Int)] W fun e w'=>e = .returned (.slice r1 D1 (c2 - I*D1))∧Below W.heap.size W w'):=fun W hW=>by
          have:=row_any _ p2 2 c n2 c2 [(D0:Int),(D1:Int)] x D0 D1 I rfl HXY.out.2.2.1 (by rw [HXY.out.2.2.1];exact HXY.out.2.2.2.2.2.2.2.1) hI HXY.out.2.2.2.2.2.1 hc2 W (nA W hW).1 (nA W hW).2
          rw [er1] at this
          exact this
         have cR2:Hid (∀ W,Below R1.heap.size R1 W→Calls Tryz.prog 90 #[.agg #[.slice p6 n6 c6,.slice p7 n7 c7],.int .i64 (J:Int)] W fun e w'=>e = .returned (.slice r2 D1 (c7 - J*D1))∧Below W.heap.size W w'):=fun W hW=>by
          have:=row_any p6 p7 n6 c6 n7 c7 [(E1:Int),(D1:Int)] _ E1 D1 J rfl fl1 fl2 hJ HXY.out.2.2.2.2.2.1 o7.cap W (o6.up hW).nums (o7.up hW).nums
          rw [er2] at this
          exact this
         obtain ⟨Z,eZ⟩:∃ Z,mVv.getD k 0=Z:=⟨_,rfl⟩
         have HZ:Hid (mVv.getD k 0=Z):=eZ
         have cDt:Hid (∀ W,Below R1.heap.size R1 W→Calls Tryz.prog 89 #[.slice r1 D1 (c2 - I*D1),.slice r2 D1 (c7 - J*D1)] W fun e w'=>e = .returned (.int .i64 Z)∧Below W.heap.size W w'):=fun W hW=>by
          have m1:=row_nums D0 D1 I HXY.out.2.2.1 hI hc2 (nA W hW).2
          have m2:=row_nums E1 D1 J fl1 hJ o7.cap (o7.up hW).nums
          rw [er1] at m1
          rw [er2] at m2
          have:=dot_any r1 r2 D1 _ D1 _ _ _ (fun q hq=>by
           obtain ⟨i,_,rfl⟩:=List.mem_map.1 hq
           exact getD_inR HXY.out.1 _) (fun q hq=>by
           obtain ⟨i,_,rfl⟩:=List.mem_map.1 hq
           exact getD_inR fl3 _) D1 (Nat.min_self _) zD.2 W (Hid.up_tz hT (bstep hBS.out.1 hW)) m1 m2
          rw [← eZ,HV.out.1,mulV_at _ _ _ _ _ _ (by rw [HV.out.2.2];exact hkn),mul_rows k (Nat.mod_lt _ hE1),eI,eJ]
          exact this
         obtain ⟨C1,eC1⟩:∃ C,c2 - I*D1=C:=⟨_,rfl⟩
         obtain ⟨C2,eC2⟩:∃ C,c7 - J*D1=C:=⟨_,rfl⟩
         rw [eC1] at cR1
         rw [eC2] at cR2
         rw [eC1,eC2] at cDt
         obtain ⟨a0,a1,_,_⟩:=xA
         obtain ⟨b0,b1,_,_⟩:=xB
         obtain ⟨s0,s1,_,_⟩:=x6
         obtain ⟨t0,t1,_,_⟩:=x8
         have a9:=cell_lt a0
         have b9:=cell_lt b0
         have s9:=cell_lt s0
         have t9:=cell_lt t0
         have hIb:(I:Int)≤4096:=by omega
         have hJb:(J:Int)≤4096:=by omega
         clear eI eJ er1 er2 nA o6 o7 fl1 fl2 fl3 eC1 eC2 eZ hI hJ hE1 xR
         go_wp2_with fail
         refine flow 21 89 (by kernel_rfl) rfl rfl (by kernel_rfl) ?_
         apply Exists.intro
         refine ⟨?_,?_⟩
         ·intro F hF
          have hFc:=hF.cell
          have hFf:=hF.frozen
          simp only [List.take_succ_cons,List.take_zero,List.eraseIdx_cons_succ,List.eraseIdx_cons_zero]
          repeat (go_big_quiet_step (first|(go_at_call 90;first|with_reducible exact hF.call (cR1.out _ (hF.below _))|with_reducible exact hF.call (cR2.out _ (hF.below _)))|(go_at_call 89;with_reducible exact hF.call (cDt.out _ (hF.below _)))))
          refine wpQuiet_nil ?_
          exact rfl
         ·intro W2 hW2
          simp only [List.drop_succ_cons,List.drop_zero]
          have HR2:=HRk.out.up hW2
          obtain ⟨hown,hfz⟩:=HR2.cell (by rw [rowF_len];exact HV.out.2.1) k hkn
          have lt2:=cell_lt hown
          have H5:Hid (OwnK .i64 22 (W2.setCell ⟨gv,k,none⟩ (.int .i64 Z)) w5.heap.size (.slice (some ⟨gv,0,none⟩) NM cv) (rowF mVv (k+1))):=by
           have:=HR2.store (by rw [rowF_len];exact HV.out.2.1) k Z
           rw [← HZ.out,rowF_set mVv k (by rw [HV.out.2.1];exact hkn)] at this
           rw [← HZ.out]
           exact this
          have hgw:w.heap.size≤gv:=by have:=Hg.out;omega
          have H6:Hid (Below w.heap.size w (W2.setCell ⟨gv,k,none⟩ (.int .i64 Z))∧Stay gv Wz (W2.setCell ⟨gv,k,none⟩ (.int .i64 Z))):=⟨(bstep hBS.out.1 hW2).setCell (p:=⟨gv,k,none⟩) hgw _,(hBS.out.2.up hW2).set _ _⟩
          clear hW2 HR2 cR1 cR2 cDt a0 a1 b0 b1 s0 s1 t0 t1 ub1
          go_wp2
          go_roundg (NM - (k+1))
          case measure=>omega
          case rel=>exact ⟨k+1,by omega,rfl,by first|rfl|simp,H5,H6⟩
        ·obtain rfl:k=NM:=by omega
         have hfin:=HRk.out
         rw [← HV.out.2.1,rowF_full,HV.out.2.1] at hfin
         obtain ⟨cs,fz,hob⟩:=HO.out.2.1.obj
         have o1:=HO.out.1.stay hBS.out.2 (HO.out.1.off_type hob (by decide))
         have HF:Hid (TRes (set2 R1 (w.heap.size+1+1) (.slice pa1 na1 ca_1) (.slice (some ⟨gv,0,none⟩) k cv)) w.heap.size (.agg #[.slice pa1 na1 ca_1,.slice (some ⟨gv,0,none⟩) k cv]) [(D0:Int),(E1:Int)] mVv∧Below w.heap.size w (set2 R1 (w.heap.size+1+1) (.slice pa1 na1 ca_1) (.slice (some ⟨gv,0,none⟩) k cv))):=
          ⟨(TRes.set o1 hfin (by have:=Hg.out;omega)).low (by have:=Hg.out;omega),below_cell hBS.out.1 _ (by omega) _ _⟩
         have cf:=xR.set (.slice pa1 na1 ca_1) (.slice (some ⟨gv,0,none⟩) k cv)
         obtain ⟨t0,t1,_,_⟩:=x8
         obtain ⟨r0,r1,r2,r3⟩:=xR
         obtain ⟨y0,y1,_,_⟩:=cf
         have t9:=cell_lt t0
         clear hfin o1 hob xA xB x6
         go_wp2
         exact bodyPost_ret (v:=.tuple #[.agg #[.slice pa1 na1 ca_1,.slice (some ⟨gv,0,none⟩) k cv],.int .i64 0]) (by simp [results,Tryz.results46,go_sem,y0,y1]) rfl ⟨_,rfl,HF.out⟩
      ·have hE:E=1:=by rw [← HE.out.1];exact if_neg hg
       obtain ⟨f1,f2,f3⟩:=m_limit HE.out.2.2.2 hg
       have hv1:mEv=2:=by rw [← HM.out.1];exact f1
       have hv2:mDv = []:=by rw [← HM.out.2.1];exact f2
       have hv3:mVv = []:=by rw [← HM.out.2.2];exact f3
       subst hE hv1 hv2 hv3
       clear f1 f2 f3 hg
       have HB6:Hid (Below w.heap.size w (set2 z1 g8 (.slice pa1 na1 ca_1) (.slice pb1 nb1 cb_1))∧Below W0.heap.size W0 (set2 z1 g8 (.slice pa1 na1 ca_1) (.slice pb1 nb1 cb_1))):=⟨HBz.out.1,HBz.out.2.1⟩
       have xr:=XR.out.up HB6.out.2
       have BF:=below_cell HB6.out.1 (w.heap.size+1+1) (by omega) (.slice none 0 0) (.slice none 0 0)
       have cf:=xr.set (.slice none 0 0) (.slice none 0 0)
       obtain ⟨r0,r1,r2,r3⟩:=xr
       obtain ⟨y0,y1,_,_⟩:=cf
       go_wp2
       exact bodyPost_ret (v:=.tuple #[.agg #[.slice none 0 0,.slice none 0 0],.int .i64 2]) (by simp [results,Tryz.results46,go_sem,y0,y1]) rfl ⟨_,rfl,TRes.none _ _,BF⟩
     ·obtain ⟨e1,e2,e3⟩:=m_shape hpq (fun h:mP [(D0:Int),(D1:Int)] x [(E0:Int),(E1:Int)] y=>hm (by have:=h.2.2.2;simp at this;omega))
      rw [e1,e2,e3]
      have hne:((D1:Int) != (E0:Int))=true:=by simp;omega
      have hne':¬ ((D1:Int)=(E0:Int)):=by omega
      clear e1 e2 e3 hp hq hpq hd hx hd' hy h1 h2 h3 h4 HD HD' HN eFE eFD eFV hm hx0 hy0 HDc
      go_enter Tryz.func46,Tryz.ntmps46
      go_wp2_with fail
      generalize hW0:World.alloc _ _=W0
      have HB0:=hidB (w:=w) hW0 (by go_grown)
      have XA:Hid (Cel W0 w.heap.size (.slice (some ⟨qa,oa,none⟩) 2 c) (.slice p2 n2 c2)):=celW hW0 (by simp [go_sem])
      have XB:Hid (Cel W0 (w.heap.size+1) (.slice (some ⟨qb,ob,none⟩) 2 c3) (.slice p4 n4 c4)):=celW hW0 (by simp [go_sem])
      have XR:Hid (Cel W0 (w.heap.size+1+1) (.slice none 0 0) (.slice none 0 0)):=celW hW0 (by simp [go_sem])
      clear hW0
      refine (cA W0 HB0.out).mono ?_
      rintro e w1 ⟨rfl,hB1⟩
      have HB1:=hid2 (bstep HB0.out hB1) hB1
      clear hB1 cA
      obtain ⟨b0,b1,_,_⟩:=XB.out.up HB1.out.2
      go_wp2_with fail
      refine (cB w1 HB1.out.1).mono ?_
      rintro e w2 ⟨rfl,hB2⟩
      have HB2:=hid2 (bstep HB1.out.1 hB2) (bstep HB1.out.2 hB2)
      clear hB2 cB b0 b1 HB1
      obtain ⟨b0,b1,_,_⟩:=XB.out.up HB2.out.2
      go_wp2_with fail
      refine (cF w2 HB2.out.1).mono ?_
      rintro e w3 ⟨v3,rfl,⟨s3,t3,rfl,hs3,ht3⟩,hB3⟩
      obtain ⟨p6,n6,c6,rfl,_⟩:=hs3.nums.lst
      obtain ⟨p7,n7,c7,rfl,_⟩:=ht3.nums.lst
      have HB3:=hid2 (bstep HB2.out.1 hB3) (bstep HB2.out.2 hB3)
      have HF3:Hid (OwnK .i64 3 w3 w2.heap.size (.slice p6 n6 c6) FD∧OwnK .i64 22 w3 w2.heap.size (.slice p7 n7 c7) FV∧W0.heap.size≤w2.heap.size):=⟨hs3,ht3,HB2.out.2.size⟩
      clear hB3 hs3 ht3 cF b0 b1 HB2
      go_wp2_with fail
      generalize hW4:World.alloc _ _=W4
      have hB4:Below w3.heap.size w3 W4:=by rw [← hW4];exact up_alloc w3 _
      have X6:Hid (Cel W4 w3.heap.size (.slice p6 n6 c6) (.slice p7 n7 c7)):=by show Cel _ _ _ _;unfold Cel;rw [← hW4];simp [go_sem]
      have HB4:=hid2 (bstep HB3.out.1 hB4) (bstep HB3.out.2 hB4)
      have HF4:Hid (OwnK .i64 3 W4 w2.heap.size (.slice p6 n6 c6) FD∧OwnK .i64 22 W4 w2.heap.size (.slice p7 n7 c7) FV∧W0.heap.size≤w2.heap.size):=⟨HF3.out.1.up hB4,HF3.out.2.1.up hB4,HF3.out.2.2⟩
      clear hW4 hB4 HB3 HF3
      obtain ⟨a0,a1,_,_⟩:=XA.out.up HB4.out.2
      obtain ⟨b0,b1,_,_⟩:=XB.out.up HB4.out.2
      have a9:=cell_lt a0
      have b9:=cell_lt b0
      have ua0:=cell_low ca0 HB4.out.1
      have ua1:=cell_low ca1 HB4.out.1
      have ub0:=cell_low cb0 HB4.out.1
      have ub1:=cell_low cb1 HB4.out.1
      have ua9:=cell_lt ua0
      have ub9:=cell_lt ub0
      go_quiet (fail)
      generalize hw5:World.drewN W4 nq=w5
      have HB5:Hid (Below w.heap.size w w5∧Below W0.heap.size W0 w5):=by rw [← hw5];exact ⟨below_drew HB4.out.1 nq,below_drew HB4.out.2 nq⟩
      have xr:=XR.out.up HB5.out.2
      have BF:=below_cell HB5.out.1 (w.heap.size+1+1) (by omega) (.slice none 0 0) (.slice none 0 0)
      have cf:=xr.set (.slice none 0 0) (.slice none 0 0)
      obtain ⟨r0,r1,r2,r3⟩:=xr
      obtain ⟨y0,y1,_,_⟩:=cf
      go_wp2
      exact bodyPost_ret (v:=.tuple #[.agg #[.slice none 0 0,.slice none 0 0],.int .i64 4]) (by simp [results,Tryz.results46,go_sem,y0,y1]) rfl ⟨_,rfl,TRes.none _ _,BF⟩
    ·obtain ⟨e1,e2,e3⟩:=m_shape hpq (fun h=>hn (by rw [← HD.out.1];exact h.2.2.1))
     rw [e1,e2,e3]
     have hne:((n:Int) != 2)=true:=by simp;omega
     have hne':¬ ((n:Int)=2):=by omega
     clear e1 e2 e3 hp hq hpq hd hx hd' hy h1 h2 h3 h4 HD HD' HN eFE eFD eFV hn
     go_enter Tryz.func46,Tryz.ntmps46
     go_wp2_with fail
     generalize hW0:World.alloc _ _=W0
     have HB0:=hidB (w:=w) hW0 (by go_grown)
     have XA:Hid (Cel W0 w.heap.size (.slice p n c) (.slice p2 n2 c2)):=celW hW0 (by simp [go_sem])
     have XB:Hid (Cel W0 (w.heap.size+1) (.slice p3 2 c3) (.slice p4 n4 c4)):=celW hW0 (by simp [go_sem])
     have XR:Hid (Cel W0 (w.heap.size+1+1) (.slice none 0 0) (.slice none 0 0)):=celW hW0 (by simp [go_sem])
     clear hW0
     refine (cA W0 HB0.out).mono ?_
     rintro e w1 ⟨rfl,hB1⟩
     have HB1:=hid2 (bstep HB0.out hB1) hB1
     clear hB1 cA
     obtain ⟨b0,b1,_,_⟩:=XB.out.up HB1.out.2
     go_wp2_with fail
     refine (cB w1 HB1.out.1).mono ?_
     rintro e w2 ⟨rfl,hB2⟩
     have HB2:=hid2 (bstep HB1.out.1 hB2) (bstep HB1.out.2 hB2)
     clear hB2 cB b0 b1 HB1
     obtain ⟨b0,b1,_,_⟩:=XB.out.up HB2.out.2
     go_wp2_with fail
     refine (cF w2 HB2.out.1).mono ?_
     rintro e w3 ⟨v3,rfl,⟨s3,t3,rfl,hs3,ht3⟩,hB3⟩
     obtain ⟨p6,n6,c6,rfl,_⟩:=hs3.nums.lst
     obtain ⟨p7,n7,c7,rfl,_⟩:=ht3.nums.lst
     have HB3:=hid2 (bstep HB2.out.1 hB3) (bstep HB2.out.2 hB3)
     have HF3:Hid (OwnK .i64 3 w3 w2.heap.size (.slice p6 n6 c6) FD∧OwnK .i64 22 w3 w2.heap.size (.slice p7 n7 c7) FV∧W0.heap.size≤w2.heap.size):=⟨hs3,ht3,HB2.out.2.size⟩
     clear hB3 hs3 ht3 cF b0 b1 HB2
     go_wp2_with fail
     generalize hW4:World.alloc _ _=W4
     have hB4:Below w3.heap.size w3 W4:=by rw [← hW4];exact up_alloc w3 _
     have X6:Hid (Cel W4 w3.heap.size (.slice p6 n6 c6) (.slice p7 n7 c7)):=by show Cel _ _ _ _;unfold Cel;rw [← hW4];simp [go_sem]
     have HB4:=hid2 (bstep HB3.out.1 hB4) (bstep HB3.out.2 hB4)
     have HF4:Hid (OwnK .i64 3 W4 w2.heap.size (.slice p6 n6 c6) FD∧OwnK .i64 22 W4 w2.heap.size (.slice p7 n7 c7) FV∧W0.heap.size≤w2.heap.size):=⟨HF3.out.1.up hB4,HF3.out.2.1.up hB4,HF3.out.2.2⟩
     clear hW4 hB4 HB3 HF3
     obtain ⟨a0,a1,_,_⟩:=XA.out.up HB4.out.2
     obtain ⟨b0,b1,_,_⟩:=XB.out.up HB4.out.2
     have a9:=cell_lt a0
     have b9:=cell_lt b0
     go_quiet (fail)
     generalize hw5:World.drewN W4 nq=w5
     have HB5:Hid (Below w.heap.size w w5∧Below W0.heap.size W0 w5):=by rw [← hw5];exact ⟨below_drew HB4.out.1 nq,below_drew HB4.out.2 nq⟩
     have xr:=XR.out.up HB5.out.2
     have BF:=below_cell HB5.out.1 (w.heap.size+1+1) (by omega) (.slice none 0 0) (.slice none 0 0)
     have cf:=xr.set (.slice none 0 0) (.slice none 0 0)
     obtain ⟨r0,r1,r2,r3⟩:=xr
     obtain ⟨y0,y1,_,_⟩:=cf
     go_wp2
     exact bodyPost_ret (v:=.tuple #[.agg #[.slice none 0 0,.slice none 0 0],.int .i64 4]) (by simp [results,Tryz.results46,go_sem,y0,y1]) rfl ⟨_,rfl,TRes.none _ _,BF⟩
   ·have eFE:flE d' y=4:=by unfold flE;rw [if_pos hq,if_neg (by rw [HD'.out.1];exact hn3)]
    rw [eFE] at cF
    obtain ⟨e1,e2,e3⟩:=m_shape hpq (fun h=>hn3 (by rw [← HD'.out.1];exact h.2.1))
    rw [e1,e2,e3]
    clear e1 e2 e3 hp hq hpq hd hx hd' hy h1 h2 h3 h4 HD HD' HN eFE eFD eFV hn3
    go_enter Tryz.func46,Tryz.ntmps46
    go_wp2_with fail
    generalize hW0:World.alloc _ _=W0
    have HB0:=hidB (w:=w) hW0 (by go_grown)
    have XA:Hid (Cel W0 w.heap.size (.slice p n c) (.slice p2 n2 c2)):=celW hW0 (by simp [go_sem])
    have XB:Hid (Cel W0 (w.heap.size+1) (.slice p3 n3 c3) (.slice p4 n4 c4)):=celW hW0 (by simp [go_sem])
    have XR:Hid (Cel W0 (w.heap.size+1+1) (.slice none 0 0) (.slice none 0 0)):=celW hW0 (by simp [go_sem])
    clear hW0
    refine (cA W0 HB0.out).mono ?_
    rintro e w1 ⟨rfl,hB1⟩
    have HB1:=hid2 (bstep HB0.out hB1) hB1
    clear hB1 cA
    obtain ⟨b0,b1,_,_⟩:=XB.out.up HB1.out.2
    go_wp2_with fail
    refine (cB w1 HB1.out.1).mono ?_
    rintro e w2 ⟨rfl,hB2⟩
    have HB2:=hid2 (bstep HB1.out.1 hB2) (bstep HB1.out.2 hB2)
    clear hB2 cB b0 b1 HB1
    obtain ⟨b0,b1,_,_⟩:=XB.out.up HB2.out.2
    go_wp2_with fail
    refine (cF w2 HB2.out.1).mono ?_
    rintro e w3 ⟨v3,rfl,⟨s3,t3,rfl,hs3,ht3⟩,hB3⟩
    obtain ⟨p6,n6,c6,rfl,_⟩:=hs3.nums.lst
    obtain ⟨p7,n7,c7,rfl,_⟩:=ht3.nums.lst
    have HB3:=hid2 (bstep HB2.out.1 hB3) (bstep HB2.out.2 hB3)
    have HF3:Hid (OwnK .i64 3 w3 w2.heap.size (.slice p6 n6 c6) FD∧OwnK .i64 22 w3 w2.heap.size (.slice p7 n7 c7) FV∧W0.heap.size≤w2.heap.size):=⟨hs3,ht3,HB2.out.2.size⟩
    clear hB3 hs3 ht3 cF b0 b1 HB2
    go_wp2_with fail
    generalize hW4:World.alloc _ _=W4
    have hB4:Below w3.heap.size w3 W4:=by rw [← hW4];exact up_alloc w3 _
    have X6:Hid (Cel W4 w3.heap.size (.slice p6 n6 c6) (.slice p7 n7 c7)):=by show Cel _ _ _ _;unfold Cel;rw [← hW4];simp [go_sem]
    have HB4:=hid2 (bstep HB3.out.1 hB4) (bstep HB3.out.2 hB4)
    have HF4:Hid (OwnK .i64 3 W4 w2.heap.size (.slice p6 n6 c6) FD∧OwnK .i64 22 W4 w2.heap.size (.slice p7 n7 c7) FV∧W0.heap.size≤w2.heap.size):=⟨HF3.out.1.up hB4,HF3.out.2.1.up hB4,HF3.out.2.2⟩
    clear hW4 hB4 HB3 HF3
    obtain ⟨a0,a1,_,_⟩:=XA.out.up HB4.out.2
    obtain ⟨b0,b1,_,_⟩:=XB.out.up HB4.out.2
    have a9:=cell_lt a0
    have b9:=cell_lt b0
    go_quiet (fail)
    generalize hw5:World.drewN W4 nq=w5
    have HB5:Hid (Below w.heap.size w w5∧Below W0.heap.size W0 w5):=by rw [← hw5];exact ⟨below_drew HB4.out.1 nq,below_drew HB4.out.2 nq⟩
    have xr:=XR.out.up HB5.out.2
    have BF:=below_cell HB5.out.1 (w.heap.size+1+1) (by omega) (.slice none 0 0) (.slice none 0 0)
    have cf:=xr.set (.slice none 0 0) (.slice none 0 0)
    obtain ⟨r0,r1,r2,r3⟩:=xr
    obtain ⟨y0,y1,_,_⟩:=cf
    go_wp2
    exact bodyPost_ret (v:=.tuple #[.agg #[.slice none 0 0,.slice none 0 0],.int .i64 4]) (by simp [results,Tryz.results46,go_sem,y0,y1]) rfl ⟨_,rfl,TRes.none _ _,BF⟩
  ·rw [decide_eq_false hq] at cB
   obtain ⟨e1,e2,e3⟩:=m_arg (d:=d) (x:=x) (d':=d') (y:=y) (fun h=>hq h.2)
   rw [e1,e2,e3]
   clear e1 e2 e3 hp hq hd hx hd' hy h1 h2 h3 h4 HD HD' HN cF
   go_enter Tryz.func46,Tryz.ntmps46
   go_wp2_with fail
   generalize hW0:World.alloc _ _=W0
   have HB0:=hidB (w:=w) hW0 (by go_grown)
   have XA:Hid (Cel W0 w.heap.size (.slice p n c) (.slice p2 n2 c2)):=celW hW0 (by simp [go_sem])
   have XB:Hid (Cel W0 (w.heap.size+1) (.slice p3 n3 c3) (.slice p4 n4 c4)):=celW hW0 (by simp [go_sem])
   have XR:Hid (Cel W0 (w.heap.size+1+1) (.slice none 0 0) (.slice none 0 0)):=celW hW0 (by simp [go_sem])
   clear hW0
   refine (cA W0 HB0.out).mono ?_
   rintro e w1 ⟨rfl,hB1⟩
   have HB1:=hid2 (bstep HB0.out hB1) hB1
   clear hB1 cA
   obtain ⟨b0,b1,_,_⟩:=XB.out.up HB1.out.2
   go_wp2_with fail
   refine (cB w1 HB1.out.1).mono ?_
   rintro e w2 ⟨rfl,hB2⟩
   have HB2:=hid2 (bstep HB1.out.1 hB2) (bstep HB1.out.2 hB2)
   clear hB2 cB b0 b1 HB1
   have xr:=XR.out.up HB2.out.2
   have BF:=below_cell HB2.out.1 (w.heap.size+1+1) (by omega) (.slice none 0 0) (.slice none 0 0)
   have cf:=xr.set (.slice none 0 0) (.slice none 0 0)
   obtain ⟨r0,r1,r2,r3⟩:=xr
   obtain ⟨y0,y1,_,_⟩:=cf
   go_wp2
   exact bodyPost_ret (v:=.tuple #[.agg #[.slice none 0 0,.slice none 0 0],.int .i64 1]) (by simp [results,Tryz.results46,go_sem,y0,y1]) rfl ⟨_,rfl,TRes.none _ _,BF⟩
 ·rw [decide_eq_false hp] at cA
  obtain ⟨e1,e2,e3⟩:=m_arg (d:=d) (x:=x) (d':=d') (y:=y) (fun h=>hp h.1)
  rw [e1,e2,e3]
  clear e1 e2 e3 hp hd hx hd' hy h1 h2 h3 h4 HD HD' HN cF cB
  go_enter Tryz.func46,Tryz.ntmps46
  go_wp2_with fail
  generalize hW0:World.alloc _ _=W0
  have HB0:=hidB (w:=w) hW0 (by go_grown)
  have XA:Hid (Cel W0 w.heap.size (.slice p n c) (.slice p2 n2 c2)):=celW hW0 (by simp [go_sem])
  have XB:Hid (Cel W0 (w.heap.size+1) (.slice p3 n3 c3) (.slice p4 n4 c4)):=celW hW0 (by simp [go_sem])
  have XR:Hid (Cel W0 (w.heap.size+1+1) (.slice none 0 0) (.slice none 0 0)):=celW hW0 (by simp [go_sem])
  clear hW0
  refine (cA W0 HB0.out).mono ?_
  rintro e w1 ⟨rfl,hB1⟩
  have HB1:=hid2 (bstep HB0.out hB1) hB1
  clear hB1 cA
  have xr:=XR.out.up HB1.out.2
  have BF:=below_cell HB1.out.1 (w.heap.size+1+1) (by omega) (.slice none 0 0) (.slice none 0 0)
  have cf:=xr.set (.slice none 0 0) (.slice none 0 0)
  obtain ⟨r0,r1,r2,r3⟩:=xr
  obtain ⟨y0,y1,_,_⟩:=cf
  go_wp2
  exact bodyPost_ret (v:=.tuple #[.agg #[.slice none 0 0,.slice none 0 0],.int .i64 1]) (by simp [results,Tryz.results46,go_sem,y0,y1]) rfl ⟨_,rfl,TRes.none _ _,BF⟩
end Go.Proofs.YtaiigfhicaelkabGreatDoor.Wd
