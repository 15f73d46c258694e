/- The reference's Mul. -/
import Derived.Test.YtlhpmjcdkpfjdaaGreatDoorY26
import Derived.Test.YtlhpmjcdkpfjdaaGreatDoorY27
set_option linter.unusedVariables false
set_option linter.unusedSimpArgs false
set_option maxHeartbeats 16000000
set_option maxRecDepth 16000
namespace Go.Proofs.YtlhpmjcdkpfjdaaGreatDoor.Wd
open Go.RowKit Fx
theorem rmul_any (p p2 p3 p4:Option Addr) (n c n2 c2 n3 c3 n4 c4:Nat) (d x d' y:List Int) (hd:RI d) (hx:RI x) (hd':RI d') (hy:RI y) (w:World) (h1:Nums .i64 w (.slice p n c) d) (h2:Nums .i64 w (.slice p2 n2 c2) x) (h3:Nums .i64 w (.slice p3 n3 c3) d') (h4:Nums .i64 w (.slice p4 n4 c4) y):
  Calls Tryz.prog 90 #[.agg #[.slice p n c,.slice p2 n2 c2],.agg #[.slice p3 n3 c3,.slice p4 n4 c4]] w fun e w'=>∃ v',e = .returned (.tuple #[v',.int .i64 (mE d x d' y)])∧TRes w' w.heap.size v' (mD d x d' y) (mV d x d' y)∧Below w.heap.size w w':=by
 have cA:=fun W (hW:Below w.heap.size w W)=>ris_any _ _ d x hd W (h1.up hW) (h2.up hW)
 have cB:=fun W (hW:Below w.heap.size w W)=>ris_any _ _ d' y hd' W (h3.up hW) (h4.up hW)
 obtain ⟨_,_,_,e4,HD⟩:=h1.lst
 cases e4
 obtain ⟨_,_,_,e4,HD'⟩:=h3.lst
 cases e4
 obtain ⟨_,_,_,e4,HX⟩:=h2.lst
 cases e4
 obtain ⟨_,_,_,e4,HY⟩:=h4.lst
 cases e4
 haveI:Nonempty World:=⟨w⟩
 by_cases hp:isP d x
 ·rw [decide_eq_true hp] at cA
  by_cases hq:isP d' y
  ·rw [decide_eq_true hq] at cB
   have hpq:isP d x∧isP d' y:=⟨hp,hq⟩
   have hn4:n≤4:=by have:=hp.1.1;rw [ntl_len,HD.out.1] at this;exact this
   have hn4':(n:Int)≤4:=by omega
   have hm4:n3≤4:=by have:=hq.1.1;rw [ntl_len,HD'.out.1] at this;exact this
   have hm4':(n3:Int)≤4:=by omega
   by_cases hn:n=2
   ·subst hn
    by_cases hn3:n3=2
    ·subst hn3
     obtain ⟨D0,D1,rfl,hx0,k0,k1,k2⟩:=two_sides hp HD.out.1
     obtain ⟨E0,E1,rfl,hy0,l0,l1,l2⟩:=two_sides hq HD'.out.1
     have HDc:Hid ((∃ q o,p=some ⟨q,o,none⟩∧w.cell? ⟨q,o,none⟩=some (.int .i64 (D0:Int))∧w.cell? ⟨q,o+1,none⟩=some (.int .i64 (D1:Int)))∧(∃ q o,p3=some ⟨q,o,none⟩∧w.cell? ⟨q,o,none⟩=some (.int .i64 (E0:Int))∧w.cell? ⟨q,o+1,none⟩=some (.int .i64 (E1:Int)))):=by
      obtain ⟨q,o,rfl,hA0⟩:=HD.out.2 0 (by omega)
      obtain ⟨q',o',e',hA1⟩:=HD.out.2 1 (by omega)
      cases e'
      obtain ⟨r,s,rfl,hB0⟩:=HD'.out.2 0 (by omega)
      obtain ⟨r',s',e',hB1⟩:=HD'.out.2 1 (by omega)
      cases e'
      exact ⟨⟨_,_,rfl,hA0,hA1⟩,_,_,rfl,hB0,hB1⟩
     obtain ⟨⟨qa,oa,rfl,ca0,ca1⟩,qb,ob,rfl,cb0,cb1⟩:=HDc.out
     have zD:=le_side k2 k0 k1
     have zE:=le_side l2 l0 l1
     have zD':(D0:Int)≤4096∧(D1:Int)≤4096:=by omega
     have zE':(E0:Int)≤4096∧(E1:Int)≤4096:=by omega
     by_cases hm:D1=E0
     ·subst hm
      have hmP:mP [(D0:Int),(D1:Int)] x [(D1:Int),(E1:Int)] y:=⟨hpq,rfl,rfl,rfl⟩
      have hne:((D1:Int) != (D1:Int))=false:=by simp
      have HXY:Hid (RI x∧RI y∧x.length=D0*D1∧y.length=D1*E1∧1≤D0∧1≤D1∧1≤E1∧D0*D1≤4096∧D1*E1≤4096):=⟨hx,hy,hx0,hy0,k0,k1,l1,k2,l2⟩
      by_cases hg:goodN (ntl [(D0:Int),(E1:Int)])
      ·obtain ⟨e1,e2,e3⟩:=m_fine hmP hg
       rw [e1,e2,e3]
       have g1:=good_two.1 hg
       have HGd:Hid (goodN (ntl [(D0:Int),(E1:Int)])):=hg
       have cG:∀ W v,Nums .i64 W v [(D0:Int),(E1:Int)]→Calls Tryz.prog 86 #[v] W fun e w'=>e = .returned (.bool true)∧w'=W:=fun W v hv=>by
        have:=rgood_any v [(D0:Int),(E1:Int)] (RI_two zD.1 zE.2) W hv
        rw [decide_eq_true hg] at this
        exact this
       have epN:prodN (ntl [(D0:Int),(E1:Int)])=D0*E1:=by rw [show ntl [(D0:Int),(E1:Int)] = [D0,E1] from ntl_itl [D0,E1]];simp [prodN]
       have cN:Hid (∀ W v,Nums .i64 W v [(D0:Int),(E1:Int)]→Calls Tryz.prog 126 #[v,.int .i64 0] W fun e w'=>∃ v',e = .returned v'∧TNew w' W.heap.size v' [(D0:Int),(E1:Int)] (D0*E1) (List.replicate (D0*E1) 0)∧Below W.heap.size W w'):=fun W v hv=>by
        have:=rnew_any v [(D0:Int),(E1:Int)] (RI_two zD.1 zE.2) HGd.out 0 W hv
        rw [epN] at this
        exact this
       have HCG:Hid (∀ W v,Nums .i64 W v [(D0:Int),(E1:Int)]→Calls Tryz.prog 86 #[v] W fun e w'=>e = .returned (.bool true)∧w'=W):=cG
       obtain ⟨V,eV⟩:∃ V,mulV ([(D0:Int),(D1:Int)].getD 0 0).toNat ([(D0:Int),(D1:Int)].getD 1 0).toNat ([(D1:Int),(E1:Int)].getD 1 0).toNat x y=V:=⟨_,rfl⟩
       rw [eV]
       obtain ⟨NM,eNM⟩:∃ NM,D0*E1=NM:=⟨_,rfl⟩
       have HV:Hid (V=mulV D0 D1 E1 x y∧V.length=NM∧D0*E1=NM):=⟨eV.symm,by rw [← eV];show (mulV D0 D1 E1 x y).length=NM;rw [mulV_len,eNM],eNM⟩
       rw [eNM] at cN g1
       have hNM:1≤NM∧NM≤4096:=⟨by rw [← eNM];exact Nat.mul_le_mul g1.1 g1.2.1,g1.2.2⟩
       have hNM':1≤(NM:Int)∧(NM:Int)≤4096:=by omega
       clear eV eNM epN cG hg hmP e1 e2 e3 hp hq hpq hd hx hd' hy h1 h2 h3 h4 HD HD' hx0 hy0 HDc l0 k0 k1 l1 k2 l2 g1
       go_enter Tryz.func90,Tryz.ntmps90
       go_wp2_with fail
       generalize hW0:World.alloc _ _=W0
       have HB0:=hidB (w:=w) hW0 (by go_grown)
       have XA:Hid (Cel W0 w.heap.size (.slice (some ⟨qa,oa,none⟩) 2 c) (.slice p2 n2 c2)):=celW hW0 (by simp [go_sem])
       have XB:Hid (Cel W0 (w.heap.size+1) (.slice (some ⟨qb,ob,none⟩) 2 c3) (.slice p4 n4 c4)):=celW hW0 (by simp [go_sem])
       have XR:Hid (Cel W0 (w.heap.size+1+1) (.slice none 0 0) (.slice none 0 0)):=celW hW0 (by simp [go_sem])
       clear hW0
       refine (cA W0 HB0.out).mono ?_
       rintro e w1 ⟨rfl,hB1⟩
       have HB1:=hid2 (bstep HB0.out hB1) hB1
       clear hB1 cA
       obtain ⟨b0,b1,_,_⟩:=XB.out.up HB1.out.2
       go_wp2_with fail
       refine (cB w1 HB1.out.1).mono ?_
       rintro e w2 ⟨rfl,hB2⟩
       have HB2:=hid2 (bstep HB1.out.1 hB2) (bstep HB1.out.2 hB2)
       clear hB2 cB b0 b1 HB1
       obtain ⟨a0,a1,_,_⟩:=XA.out.up HB2.out.2
       obtain ⟨b0,b1,_,_⟩:=XB.out.up HB2.out.2
       have a9:=cell_lt a0
       have b9:=cell_lt b0
       have ua0:=cell_low ca0 HB2.out.1
       have ua1:=cell_low ca1 HB2.out.1
       have ub0:=cell_low cb0 HB2.out.1
       have ub1:=cell_low cb1 HB2.out.1
       have ua9:=cell_lt ua0
       have ub9:=cell_lt ub0
       go_wp2_with fail
       go_quiet (fail)
       generalize hw5:World.drewN w2 nq=w3
       have HB3:Hid (Below w.heap.size w w3∧Below W0.heap.size W0 w3):=by rw [← hw5];exact ⟨below_drew HB2.out.1 nq,below_drew HB2.out.2 nq⟩
       clear hw5
       clear a0 a1 b0 b1 a9 b9 ua0 ua1 ub0 ub1 ua9 ub9
       obtain ⟨a0,a1,_,_⟩:=XA.out.up HB3.out.2
       obtain ⟨b0,b1,_,_⟩:=XB.out.up HB3.out.2
       have a9:=cell_lt a0
       have b9:=cell_lt b0
       have ua0:=cell_low ca0 HB3.out.1
       have ua1:=cell_low ca1 HB3.out.1
       have ub0:=cell_low cb0 HB3.out.1
       have ub1:=cell_low cb1 HB3.out.1
       have ua9:=cell_lt ua0
       have ub9:=cell_lt ub0
       go_wp2_with fail
       go_quiet (fail)
       generalize hw5:World.drewN w3 nq=w4
       have HB4:Hid (Below w.heap.size w w4∧Below W0.heap.size W0 w4):=by rw [← hw5];exact ⟨below_drew HB3.out.1 nq,below_drew HB3.out.2 nq⟩
       clear hw5
       clear a0 a1 b0 b1 a9 b9 ua0 ua1 ub0 ub1 ua9 ub9
       go_wp2_with fail
       generalize hW5:World.alloc _ _=W5
       have hB5:Below w4.heap.size w4 W5:=by rw [← hW5];exact up_alloc w4 _
       have HB5:=hid2 (bstep HB4.out.1 hB5) (bstep HB4.out.2 hB5)
       have HL5:Hid (Nums .i64 W5 (.slice (some ⟨w4.heap.size,0,none⟩) 2 2) [(D0:Int),(E1:Int)]):=by show Nums _ _ _ _;rw [← hW5];exact nums_lit (k:=.i64) w4 [(D0:Int),(E1:Int)] 2 (0,0) rfl
       clear hW5 hB5 HB3 HB4
       refine (HCG.out W5 _ HL5.out).mono ?_
       rintro e w6 ⟨rfl,rfl⟩
       clear HL5
       go_wp2_with fail
       generalize hW7:World.alloc _ _=W7
       have hB7:Below w6.heap.size w6 W7:=by rw [← hW7];exact up_alloc w6 _
       have HB7:=hid2 (bstep HB5.out.1 hB7) (bstep HB5.out.2 hB7)
       have HL7:Hid (Nums .i64 W7 (.slice (some ⟨w6.heap.size,0,none⟩) 2 2) [(D0:Int),(E1:Int)]):=by show Nums _ _ _ _;rw [← hW7];exact nums_lit (k:=.i64) w6 [(D0:Int),(E1:Int)] 2 (0,0) rfl
       clear hW7 hB7 HB5 HCG
       refine (cN.out W7 _ HL7.out).mono ?_
       rintro e w8 ⟨v8,rfl,⟨s8,g,cg,rfl,hs8,ht8,hOff,hgB⟩,hB8⟩
       obtain ⟨p8,n8,c8,rfl,_⟩:=hs8.nums.lst
       clear HL7 cN
       go_wp2_with fail
       generalize hW9:World.alloc _ _=W9
       have B9:Below w8.heap.size w8 W9:=by rw [← hW9];exact up_alloc w8 _
       have XT:Hid (Cel W9 w8.heap.size (.slice p8 n8 c8) (.slice (some ⟨g,0,none⟩) NM cg)):=by show Cel _ _ _ _;unfold Cel;rw [← hW9];simp [go_sem]
       have HB9:Hid (Below w.heap.size w W9∧Below W0.heap.size W0 W9):=⟨bstep HB7.out.1 (bstep hB8 B9),bstep HB7.out.2 (bstep hB8 B9)⟩
       have HD9:Hid (OwnK .i64 3 W9 W7.heap.size (.slice p8 n8 c8) [(D0:Int),(E1:Int)]∧Off g (.slice p8 n8 c8)):=⟨hs8.up B9,hOff⟩
       have HO9:Hid (OwnK .i64 33 W9 g (.slice (some ⟨g,0,none⟩) NM cg) (rowF V (0*E1))):=by
        show OwnK _ _ _ _ _ _
        rw [Nat.zero_mul,rowF_zero,HV.out.2.1]
        exact (ht8.up B9).base
       have hz:=cell_lt XR.out.1
       have hgl:=ht8.size
       have Hg:Hid (W0.heap.size≤g∧w.heap.size+1+1 < W0.heap.size∧g < w8.heap.size∧W0.heap.size≤W7.heap.size):=⟨Nat.le_trans HB7.out.2.size hgB,hz,hgl,HB7.out.2.size⟩
       obtain ⟨b8,hb8⟩:∃ b8,w8.heap.size=b8:=⟨_,rfl⟩
       rw [hb8] at XT Hg ⊢
       clear hW9 B9 hz hgl hs8 ht8 hB8 hgB hOff HB7 hb8
       go_loopg [10] D0 (fun gg i wr=>∃ (I:Nat),I≤D0∧gg=D0 - I∧i = .int .i64 (I:Int)∧Hid (OwnK .i64 33 wr g (.slice (some ⟨g,0,none⟩) NM cg) (rowF V (I*E1)))∧Hid (Below w.heap.size w wr∧Stay g W9 wr))
       case atStart=>exact ⟨0,by omega,by omega,by first|rfl|simp,HO9,HB9.out.1,Stay.refl _ _⟩
       case round=>
        obtain ⟨I,hI,hgI,rfl,HRI,hBI⟩:=hrel
        obtain ⟨R1,hR1⟩:∃ R1:World,R1=wr:=⟨_,rfl⟩
        subst hR1
        by_cases hIn:I < D0
        ·have hI':(I:Int) < (D0:Int):=by omega
         go_wp2_with fail
         rw [show I*E1=I*E1+0 from rfl] at HRI
         go_loopg [11] E1 (fun gg i wr=>∃ (J:Nat),J≤E1∧gg=E1 - J∧i = .int .i64 (J:Int)∧Hid (OwnK .i64 33 wr g (.slice (some ⟨g,0,none⟩) NM cg) (rowF V (I*E1+J)))∧Hid (Below w.heap.size w wr∧Stay g W9 wr))
         case atStart=>exact ⟨0,by omega,by omega,by first|rfl|simp,HRI,hBI⟩
         case round=>
          obtain ⟨J,hJ,hgJ,rfl,HRJ,hBJ⟩:=hrel
          obtain ⟨R2,hR2⟩:∃ R2:World,R2=wr:=⟨_,rfl⟩
          subst hR2
          by_cases hJn:J < E1
          ·have hJ':(J:Int) < (E1:Int):=by omega
           go_wp2_with fail
           have L20:Hid (LiesS (R2.alloc (.cells #[.bool false,.int .u64 0,.int .u64 0,.int .u64 0,.int .u64 0] 151)) R2.heap.size (sumI (fun q=>x.getD (I*D1+q) 0*y.getD (q*E1+J) 0) 0)):=liesS_new R2 _
           go_loopg [13] D1 (fun gg i wr=>∃ (Q:Nat),Q≤D1∧gg=D1 - Q∧i = .int .i64 (Q:Int)∧Hid (LiesS wr R2.heap.size (sumI (fun q=>x.getD (I*D1+q) 0*y.getD (q*E1+J) 0) Q))∧Hid (Below R2.heap.size R2 wr))
           case atStart=>exact ⟨0,by omega,by omega,by first|rfl|simp,L20,up_alloc R2 _⟩
           case round=>
            obtain ⟨Q,hQ,hgQ,rfl,L0,hBQ⟩:=hrel
            obtain ⟨R3,hR3⟩:∃ R3:World,R3=wr:=⟨_,rfl⟩
            subst hR3
            by_cases hQn:Q < D1
            ·have hQ':(Q:Int) < (D1:Int):=by omega
             have xA:Cel R3 w.heap.size (.slice (some ⟨qa,oa,none⟩) 2 c) (.slice p2 n2 c2):=((XA.out.up HB9.out.2).stay hBJ.out.2 (by have:=Hg.out;omega)).up hBQ.out
             have xB:Cel R3 (w.heap.size+1) (.slice (some ⟨qb,ob,none⟩) 2 c3) (.slice p4 n4 c4):=((XB.out.up HB9.out.2).stay hBJ.out.2 (by have:=Hg.out;omega)).up hBQ.out
             have hBw:Below w.heap.size w R3:=bstep hBJ.out.1 hBQ.out
             have hAx:I*D1+Q < D0*D1:=pair_lt hIn hQn
             have hBy:Q*E1+J < D1*E1:=pair_lt hQn hJn
             have hA4:D0*D1≤4096∧D1*E1≤4096:=HXY.out.2.2.2.2.2.2.2
             have hn2x:n2=D0*D1:=by rw [← HX.out.1];exact HXY.out.2.2.1
             have hn4y:n4=D1*E1:=by rw [← HY.out.1];exact HXY.out.2.2.2.1
             obtain ⟨qx,ox,ex2,hcx⟩:=HX.out.2 (I*D1+Q) (by omega)
             obtain ⟨qy,oy,ey4,hcy⟩:=HY.out.2 (Q*E1+J) (by omega)
             subst ex2 ey4
             have hcx1:=cell_low hcx hBw
             have hcy1:=cell_low hcy hBw
             have ltx:=cell_lt hcx1
             have lty:=cell_lt hcy1
             have hXr:=getD_inR HXY.out.1 (I*D1+Q)
             have hYr:=getD_inR HXY.out.2.1 (Q*E1+J)
             have hroom:=prods_room2 HXY.out.1 HXY.out.2.1 (fun q=>I*D1+q) (fun q=>q*E1+J) Q (by omega) _ _ hXr hYr
             have eS:sumI (fun q=>x.getD (I*D1+q) 0*y.getD (q*E1+J) 0) (Q+1)=sumI (fun q=>x.getD (I*D1+q) 0*y.getD (q*E1+J) 0) Q+x.getD (I*D1+Q) 0*y.getD (Q*E1+J) 0:=rfl
             obtain ⟨S,eS0⟩:∃ S,sumI (fun q=>x.getD (I*D1+q) 0*y.getD (q*E1+J) 0) Q=S:=⟨_,rfl⟩
             rw [eS0] at L0 eS
             have hroom:(S.natAbs:Int)+((x.getD (I*D1+Q) 0*y.getD (Q*E1+J) 0).natAbs:Int) < 115792089237316195423570985008687907853269984665640564039457584007913129639936:=by rw [← eS0];exact hroom
             obtain ⟨X,eX⟩:∃ X,x.getD (I*D1+Q) 0=X:=⟨_,rfl⟩
             obtain ⟨Y,eY⟩:∃ Y,y.getD (Q*E1+J) 0=Y:=⟨_,rfl⟩
             rw [eX] at hcx1 hXr
             rw [eY] at hcy1 hYr
             rw [eX,eY] at hroom eS
             have HS:Hid (sumI (fun q=>x.getD (I*D1+q) 0*y.getD (q*E1+J) 0) (Q+1)=S+X*Y):=eS
             obtain ⟨A,eA⟩:∃ A,I*D1=A:=⟨_,rfl⟩
             obtain ⟨B,eB⟩:∃ B,Q*E1=B:=⟨_,rfl⟩
             have eA':(I:Int)*(D1:Int)=(A:Int):=by rw [← eA];push_cast;rfl
             have eB':(Q:Int)*(E1:Int)=(B:Int):=by rw [← eB];push_cast;rfl
             rw [eA] at hAx hcx1
             rw [eB] at hBy hcy1
             obtain ⟨AQ,eAQ⟩:∃ AQ,A+Q=AQ:=⟨_,rfl⟩
             obtain ⟨BJ,eBJ⟩:∃ BJ,B+J=BJ:=⟨_,rfl⟩
             have eAQ':(A:Int)+(Q:Int)=(AQ:Int):=by omega
             have eBJ':(B:Int)+(J:Int)=(BJ:Int):=by omega
             rw [eAQ] at hAx hcx1
             rw [eBJ] at hBy hcy1
             have bnd:(AQ:Int) < (n2:Int)∧(BJ:Int) < (n4:Int)∧(n2:Int)≤4096∧(n4:Int)≤4096∧(A:Int)≤4096∧(B:Int)≤4096:=by omega
             obtain ⟨r,u0,u1,u2,u3,lt9,q0,q1,q2,q3,q4,z0,z1,z2,z3,z4,hN⟩:=L0.out
             obtain ⟨zp,hp,cTi⟩:=Rf.timesD hXr hYr
             obtain ⟨pr,v0,v1,v2,v3,rfl,hp⟩:=hp.agg
             obtain ⟨zs,hs,cPl⟩:=Rf.plusD hN hp hroom
             obtain ⟨sr,t0,t1,t2,t3,rfl,hs⟩:=hs.agg
             have HSs:Hid (Rf.IsS (.agg #[.bool sr,.int .u64 t0,.int .u64 t1,.int .u64 t2,.int .u64 t3]) (S+X*Y)):=hs
             obtain ⟨a0,a1,_,_⟩:=xA
             obtain ⟨b0,b1,_,_⟩:=xB
             have a9:=cell_lt a0
             have b9:=cell_lt b0
             clear eX eY eS0 eS hroom hXr hYr hcx hcy hN hp hs eA eB eAQ eBJ hAx hBy hA4 hn2x hn4y hBw
             go_wp2_with fail
             refine flow 21 116 (by kernel_rfl) rfl rfl (by kernel_rfl) ?_
             apply Exists.intro
             refine ⟨?_,?_⟩
             ·intro F hF
              have hFc:=hF.cell
              have hFf:=hF.frozen
              simp only [List.take_succ_cons,List.take_zero,List.eraseIdx_cons_succ,List.eraseIdx_cons_zero]
              repeat (go_big_quiet_step (first|(go_at_call 132;with_reducible exact hF.call (cTi _))|(go_at_call 131;with_reducible exact hF.call (cPl _))))
              refine wpQuiet_nil ?_
              exact rfl
             ·intro W2 hW2
              simp only [List.drop_succ_cons,List.drop_zero]
              have M:=L0.out.up hW2
              have N0:Hid (LiesS (((((W2.setCell ⟨R2.heap.size,0,none⟩ (.bool sr)).setCell ⟨R2.heap.size,1,none⟩ (.int .u64 t0)).setCell ⟨R2.heap.size,2,none⟩ (.int .u64 t1)).setCell ⟨R2.heap.size,3,none⟩ (.int .u64 t2)).setCell ⟨R2.heap.size,4,none⟩ (.int .u64 t3)) R2.heap.size (S+X*Y)):=M.set HSs.out
              have B2:Hid (Below R2.heap.size R2 (((((W2.setCell ⟨R2.heap.size,0,none⟩ (.bool sr)).setCell ⟨R2.heap.size,1,none⟩ (.int .u64 t0)).setCell ⟨R2.heap.size,2,none⟩ (.int .u64 t1)).setCell ⟨R2.heap.size,3,none⟩ (.int .u64 t2)).setCell ⟨R2.heap.size,4,none⟩ (.int .u64 t3))):=below_set5 (bstep hBQ.out hW2) _ (Nat.le_refl _) _ _ _ _ _
              obtain ⟨r',w0,w1_,w2_,w3_,lt9',q0',q1',q2',q3',q4',z0',z1',z2',z3',z4',_⟩:=M
              clear hW2 cTi cPl q0 q1 q2 q3 q4 z0 z1 z2 z3 z4 lt9 L0 hBQ hcx1 hcy1 ltx lty a0 a1 b0 b1 a9 b9
              go_wp2
              go_roundg (D1 - (Q+1))
              case measure=>omega
              case rel=>exact ⟨Q+1,by omega,rfl,by first|rfl|simp,by rw [HS.out];exact N0,B2⟩
            ·obtain rfl:Q=D1:=by omega
             have xT:Cel R3 b8 (.slice p8 n8 c8) (.slice (some ⟨g,0,none⟩) NM cg):=(XT.out.stay hBJ.out.2 (by have:=Hg.out;omega)).up hBQ.out
             have hIJ:I*E1+J < D0*E1:=pair_lt hIn hJn
             rw [HV.out.2.2] at hIJ
             have eZ:V.getD (I*E1+J) 0=rnd (sumI (fun q=>x.getD (I*Q+q) 0*y.getD (q*E1+J) 0) Q):=by
              rw [HV.out.1,mulV_at _ _ _ _ _ _ (by rw [HV.out.2.2];exact hIJ)]
              unfold mulN
              rw [pair_div _ _ _ hJn,pair_mod _ _ _ hJn]
             obtain ⟨S,eS0⟩:∃ S,sumI (fun q=>x.getD (I*Q+q) 0*y.getD (q*E1+J) 0) Q=S:=⟨_,rfl⟩
             rw [eS0] at L0 eZ
             obtain ⟨A,eA⟩:∃ A,I*E1=A:=⟨_,rfl⟩
             have eA':(I:Int)*(E1:Int)=(A:Int):=by rw [← eA];push_cast;rfl
             rw [eA] at hIJ eZ HRJ
             obtain ⟨AJ,eAJ⟩:∃ AJ,A+J=AJ:=⟨_,rfl⟩
             have eAJ':(A:Int)+(J:Int)=(AJ:Int):=by omega
             rw [eAJ] at hIJ eZ HRJ
             obtain ⟨Z,eZ2⟩:∃ Z,V.getD AJ 0=Z:=⟨_,rfl⟩
             have HZ:Hid (V.getD AJ 0=Z):=eZ2
             have HAJ:Hid (I*E1+(J+1)=AJ+1):=by show _=_;omega
             have bnd:(AJ:Int) < (NM:Int)∧(A:Int)≤4096:=by omega
             obtain ⟨r,u0,u1,u2,u3,lt9,q0,q1,q2,q3,q4,z0,z1,z2,z3,z4,hN⟩:=L0.out
             obtain ⟨zh,hh,cHa⟩:=Rf.halvedD hN
             obtain ⟨hr,v0,v1,v2,v3,rfl,hh⟩:=hh.agg
             have cHe:∀ W,Calls Tryz.prog 133 #[.agg #[.bool hr,.int .u64 v0,.int .u64 v1,.int .u64 v2,.int .u64 v3]] W fun e w'=>e = .returned (.int .i64 Z)∧Below W.heap.size W w':=fun W=>by
              rw [← eZ2,eZ]
              exact Rf.heldS _ _ hh W
             obtain ⟨t0,t1,_,_⟩:=xT
             have t9:=cell_lt t0
             clear eZ eZ2 eS0 eA eAJ hN hh
             go_wp2_with fail
             refine flow 11 116 (by kernel_rfl) rfl rfl (by kernel_rfl) ?_
             apply Exists.intro
             refine ⟨?_,?_⟩
             ·intro F hF
              have hFc:=hF.cell
              have hFf:=hF.frozen
              simp only [List.take_succ_cons,List.take_zero,List.eraseIdx_cons_succ,List.eraseIdx_cons_zero]
              repeat (go_big_quiet_step (first|(go_at_call 134;with_reducible exact hF.call (cHa _))|(go_at_call 133;with_reducible exact hF.call (cHe _))))
              refine wpQuiet_nil ?_
              exact rfl
             ·intro W2 hW2
              simp only [List.drop_succ_cons,List.drop_zero]
              have hB2:=bstep hBQ.out hW2
              have HR2:=HRJ.out.up hB2
              obtain ⟨hown,hfz⟩:=HR2.cell (by rw [rowF_len];exact HV.out.2.1) AJ hIJ
              have lt2:=cell_lt hown
              have H5:Hid (OwnK .i64 33 (W2.setCell ⟨g,AJ,none⟩ (.int .i64 Z)) g (.slice (some ⟨g,0,none⟩) NM cg) (rowF V (I*E1+(J+1)))):=by
               have:=HR2.store (by rw [rowF_len];exact HV.out.2.1) AJ Z
               rw [← HZ.out,rowF_set V AJ (by rw [HV.out.2.1];exact hIJ)] at this
               rw [← HZ.out]
               show OwnK _ _ _ _ _ _
               rw [HAJ.out]
               exact this
              have hgw:w.heap.size≤g:=by have:=Hg.out;omega
              have H6:Hid (Below w.heap.size w (W2.setCell ⟨g,AJ,none⟩ (.int .i64 Z))∧Stay g W9 (W2.setCell ⟨g,AJ,none⟩ (.int .i64 Z))):=⟨(bstep hBJ.out.1 hB2).setCell (p:=⟨g,AJ,none⟩) hgw _,(hBJ.out.2.up hB2).set _ _⟩
              clear hW2 hB2 HR2 cHa cHe q0 q1 q2 q3 q4 z0 z1 z2 z3 z4 lt9 L0 hBQ t0 t1 t9
              go_wp2
              go_roundg (E1 - (J+1))
              case measure=>omega
              case rel=>exact ⟨J+1,by omega,rfl,by first|rfl|simp,H5,H6⟩
          ·obtain rfl:J=E1:=by omega
           have H7:Hid (OwnK .i64 33 R2 g (.slice (some ⟨g,0,none⟩) NM cg) (rowF V ((I+1)*J))):=by
            show OwnK _ _ _ _ _ _
            rw [Nat.add_mul,Nat.one_mul]
            exact HRJ.out
           go_wp2
           go_roundg (D0 - (I+1))
           case measure=>omega
           case rel=>exact ⟨I+1,by omega,rfl,by first|rfl|simp,H7,hBJ⟩
        ·obtain rfl:I=D0:=by omega
         have hfin:=HRI.out
         rw [HV.out.2.2,← HV.out.2.1,rowF_full,HV.out.2.1] at hfin
         have xR:Cel R1 (w.heap.size+1+1) (.slice none 0 0) (.slice none 0 0):=(XR.out.up HB9.out.2).stay hBI.out.2 (by have:=Hg.out;omega)
         have xT:Cel R1 b8 (.slice p8 n8 c8) (.slice (some ⟨g,0,none⟩) NM cg):=XT.out.stay hBI.out.2 (by have:=Hg.out;omega)
         have o1:=HD9.out.1.stay hBI.out.2 HD9.out.2
         have HF:Hid (TRes (set2 R1 (w.heap.size+1+1) (.slice p8 n8 c8) (.slice (some ⟨g,0,none⟩) NM cg)) w.heap.size (.agg #[.slice p8 n8 c8,.slice (some ⟨g,0,none⟩) NM cg]) [(I:Int),(E1:Int)] V∧Below w.heap.size w (set2 R1 (w.heap.size+1+1) (.slice p8 n8 c8) (.slice (some ⟨g,0,none⟩) NM cg))):=
          ⟨(TRes.set (B:=W0.heap.size) (o1.low Hg.out.2.2.2) (hfin.low Hg.out.1) Hg.out.2.1).low (by have:=Hg.out;omega),below_cell hBI.out.1 _ (by omega) _ _⟩
         have cf:=xR.set (.slice p8 n8 c8) (.slice (some ⟨g,0,none⟩) NM cg)
         obtain ⟨t0,t1,_,_⟩:=xT
         obtain ⟨r0,r1,r2,r3⟩:=xR
         obtain ⟨y0,y1,_,_⟩:=cf
         have t9:=cell_lt t0
         clear hfin o1
         go_wp2
         exact bodyPost_ret (v:=.tuple #[.agg #[.slice p8 n8 c8,.slice (some ⟨g,0,none⟩) NM cg],.int .i64 0]) (by simp [results,Tryz.results90,go_sem,y0,y1]) rfl ⟨_,rfl,HF.out⟩
      ·obtain ⟨e1,e2,e3⟩:=m_limit hmP hg
       rw [e1,e2,e3]
       have cG:Hid (∀ W v,Nums .i64 W v [(D0:Int),(E1:Int)]→Calls Tryz.prog 86 #[v] W fun e w'=>e = .returned (.bool false)∧w'=W):=fun W v hv=>by
        have:=rgood_any v [(D0:Int),(E1:Int)] (RI_two zD.1 zE.2) W hv
        rw [decide_eq_false hg] at this
        exact this
       clear hg hmP e1 e2 e3 hp hq hpq hd hx hd' hy h1 h2 h3 h4 HD HD' hx0 hy0 HDc l0 k0 k1 l1 k2 l2
       go_enter Tryz.func90,Tryz.ntmps90
       go_wp2_with fail
       generalize hW0:World.alloc _ _=W0
       have HB0:=hidB (w:=w) hW0 (by go_grown)
       have XA:Hid (Cel W0 w.heap.size (.slice (some ⟨qa,oa,none⟩) 2 c) (.slice p2 n2 c2)):=celW hW0 (by simp [go_sem])
       have XB:Hid (Cel W0 (w.heap.size+1) (.slice (some ⟨qb,ob,none⟩) 2 c3) (.slice p4 n4 c4)):=celW hW0 (by simp [go_sem])
       have XR:Hid (Cel W0 (w.heap.size+1+1) (.slice none 0 0) (.slice none 0 0)):=celW hW0 (by simp [go_sem])
       clear hW0
       refine (cA W0 HB0.out).mono ?_
       rintro e w1 ⟨rfl,hB1⟩
       have HB1:=hid2 (bstep HB0.out hB1) hB1
       clear hB1 cA
       obtain ⟨b0,b1,_,_⟩:=XB.out.up HB1.out.2
       go_wp2_with fail
       refine (cB w1 HB1.out.1).mono ?_
       rintro e w2 ⟨rfl,hB2⟩
       have HB2:=hid2 (bstep HB1.out.1 hB2) (bstep HB1.out.2 hB2)
       clear hB2 cB b0 b1 HB1
       obtain ⟨a0,a1,_,_⟩:=XA.out.up HB2.out.2
       obtain ⟨b0,b1,_,_⟩:=XB.out.up HB2.out.2
       have a9:=cell_lt a0
       have b9:=cell_lt b0
       have ua0:=cell_low ca0 HB2.out.1
       have ua1:=cell_low ca1 HB2.out.1
       have ub0:=cell_low cb0 HB2.out.1
       have ub1:=cell_low cb1 HB2.out.1
       have ua9:=cell_lt ua0
       have ub9:=cell_lt ub0
       go_wp2_with fail
       go_quiet (fail)
       generalize hw5:World.drewN w2 nq=w3
       have HB3:Hid (Below w.heap.size w w3∧Below W0.heap.size W0 w3):=by rw [← hw5];exact ⟨below_drew HB2.out.1 nq,below_drew HB2.out.2 nq⟩
       clear hw5
       clear a0 a1 b0 b1 a9 b9 ua0 ua1 ub0 ub1 ua9 ub9
       obtain ⟨a0,a1,_,_⟩:=XA.out.up HB3.out.2
       obtain ⟨b0,b1,_,_⟩:=XB.out.up HB3.out.2
       have a9:=cell_lt a0
       have b9:=cell_lt b0
       have ua0:=cell_low ca0 HB3.out.1
       have ua1:=cell_low ca1 HB3.out.1
       have ub0:=cell_low cb0 HB3.out.1
       have ub1:=cell_low cb1 HB3.out.1
       have ua9:=cell_lt ua0
       have ub9:=cell_lt ub0
       go_wp2_with fail
       go_quiet (fail)
       generalize hw5:World.drewN w3 nq=w4
       have HB4:Hid (Below w.heap.size w w4∧Below W0.heap.size W0 w4):=by rw [← hw5];exact ⟨below_drew HB3.out.1 nq,below_drew HB3.out.2 nq⟩
       clear hw5
       clear a0 a1 b0 b1 a9 b9 ua0 ua1 ub0 ub1 ua9 ub9
       go_wp2_with fail
       generalize hW5:World.alloc _ _=W5
       have hB5:Below w4.heap.size w4 W5:=by rw [← hW5];exact up_alloc w4 _
       have HB5:=hid2 (bstep HB4.out.1 hB5) (bstep HB4.out.2 hB5)
       have HL5:Hid (Nums .i64 W5 (.slice (some ⟨w4.heap.size,0,none⟩) 2 2) [(D0:Int),(E1:Int)]):=by show Nums _ _ _ _;rw [← hW5];exact nums_lit (k:=.i64) w4 [(D0:Int),(E1:Int)] 2 (0,0) rfl
       clear hW5 hB5 HB3 HB4
       refine (cG.out W5 _ HL5.out).mono ?_
       rintro e w6 ⟨rfl,rfl⟩
       have xr:=XR.out.up HB5.out.2
       have BF:=below_cell HB5.out.1 (w.heap.size+1+1) (by omega) (.slice none 0 0) (.slice none 0 0)
       have cf:=xr.set (.slice none 0 0) (.slice none 0 0)
       obtain ⟨r0,r1,r2,r3⟩:=xr
       obtain ⟨y0,y1,_,_⟩:=cf
       go_wp2
       exact bodyPost_ret (v:=.tuple #[.agg #[.slice none 0 0,.slice none 0 0],.int .i64 2]) (by simp [results,Tryz.results90,go_sem,y0,y1]) rfl ⟨_,rfl,TRes.none _ _,BF⟩
     ·obtain ⟨e1,e2,e3⟩:=m_shape hpq (fun h:mP [(D0:Int),(D1:Int)] x [(E0:Int),(E1:Int)] y=>hm (by have:=h.2.2.2;simp at this;omega))
      rw [e1,e2,e3]
      have hne:((D1:Int) != (E0:Int))=true:=by simp;omega
      have hne':¬ ((D1:Int)=(E0:Int)):=by omega
      clear e1 e2 e3 hp hq hpq hd hx hd' hy h1 h2 h3 h4 HD HD' hm hx0 hy0 HDc
      go_enter Tryz.func90,Tryz.ntmps90
      go_wp2_with fail
      generalize hW0:World.alloc _ _=W0
      have HB0:=hidB (w:=w) hW0 (by go_grown)
      have XA:Hid (Cel W0 w.heap.size (.slice (some ⟨qa,oa,none⟩) 2 c) (.slice p2 n2 c2)):=celW hW0 (by simp [go_sem])
      have XB:Hid (Cel W0 (w.heap.size+1) (.slice (some ⟨qb,ob,none⟩) 2 c3) (.slice p4 n4 c4)):=celW hW0 (by simp [go_sem])
      have XR:Hid (Cel W0 (w.heap.size+1+1) (.slice none 0 0) (.slice none 0 0)):=celW hW0 (by simp [go_sem])
      clear hW0
      refine (cA W0 HB0.out).mono ?_
      rintro e w1 ⟨rfl,hB1⟩
      have HB1:=hid2 (bstep HB0.out hB1) hB1
      clear hB1 cA
      obtain ⟨b0,b1,_,_⟩:=XB.out.up HB1.out.2
      go_wp2_with fail
      refine (cB w1 HB1.out.1).mono ?_
      rintro e w2 ⟨rfl,hB2⟩
      have HB2:=hid2 (bstep HB1.out.1 hB2) (bstep HB1.out.2 hB2)
      clear hB2 cB b0 b1 HB1
      obtain ⟨a0,a1,_,_⟩:=XA.out.up HB2.out.2
      obtain ⟨b0,b1,_,_⟩:=XB.out.up HB2.out.2
      have a9:=cell_lt a0
      have b9:=cell_lt b0
      have ua0:=cell_low ca0 HB2.out.1
      have ua1:=cell_low ca1 HB2.out.1
      have ub0:=cell_low cb0 HB2.out.1
      have ub1:=cell_low cb1 HB2.out.1
      have ua9:=cell_lt ua0
      have ub9:=cell_lt ub0
      go_wp2_with fail
      go_quiet (fail)
      generalize hw5:World.drewN w2 nq=w3
      have HB3:Hid (Below w.heap.size w w3∧Below W0.heap.size W0 w3):=by rw [← hw5];exact ⟨below_drew HB2.out.1 nq,below_drew HB2.out.2 nq⟩
      clear hw5
      have xr:=XR.out.up HB3.out.2
      have BF:=below_cell HB3.out.1 (w.heap.size+1+1) (by omega) (.slice none 0 0) (.slice none 0 0)
      have cf:=xr.set (.slice none 0 0) (.slice none 0 0)
      obtain ⟨r0,r1,r2,r3⟩:=xr
      obtain ⟨y0,y1,_,_⟩:=cf
      go_wp2
      exact bodyPost_ret (v:=.tuple #[.agg #[.slice none 0 0,.slice none 0 0],.int .i64 4]) (by simp [results,Tryz.results90,go_sem,y0,y1]) rfl ⟨_,rfl,TRes.none _ _,BF⟩
    ·obtain ⟨e1,e2,e3⟩:=m_shape hpq (fun h=>hn3 (by rw [← HD'.out.1];exact h.2.1))
     rw [e1,e2,e3]
     have hne:((n3:Int) != 2)=true:=by simp;omega
     have hne':¬ ((n3:Int)=2):=by omega
     clear e1 e2 e3 hp hq hpq hd hx hd' hy h1 h2 h3 h4 HD HD' hn3
     go_enter Tryz.func90,Tryz.ntmps90
     go_wp2_with fail
     generalize hW0:World.alloc _ _=W0
     have HB0:=hidB (w:=w) hW0 (by go_grown)
     have XA:Hid (Cel W0 w.heap.size (.slice p 2 c) (.slice p2 n2 c2)):=celW hW0 (by simp [go_sem])
     have XB:Hid (Cel W0 (w.heap.size+1) (.slice p3 n3 c3) (.slice p4 n4 c4)):=celW hW0 (by simp [go_sem])
     have XR:Hid (Cel W0 (w.heap.size+1+1) (.slice none 0 0) (.slice none 0 0)):=celW hW0 (by simp [go_sem])
     clear hW0
     refine (cA W0 HB0.out).mono ?_
     rintro e w1 ⟨rfl,hB1⟩
     have HB1:=hid2 (bstep HB0.out hB1) hB1
     clear hB1 cA
     obtain ⟨b0,b1,_,_⟩:=XB.out.up HB1.out.2
     go_wp2_with fail
     refine (cB w1 HB1.out.1).mono ?_
     rintro e w2 ⟨rfl,hB2⟩
     have HB2:=hid2 (bstep HB1.out.1 hB2) (bstep HB1.out.2 hB2)
     clear hB2 cB b0 b1 HB1
     obtain ⟨a0,a1,_,_⟩:=XA.out.up HB2.out.2
     obtain ⟨b0,b1,_,_⟩:=XB.out.up HB2.out.2
     have a9:=cell_lt a0
     have b9:=cell_lt b0
     go_wp2_with fail
     go_quiet (fail)
     generalize hw5:World.drewN w2 nq=w3
     have HB3:Hid (Below w.heap.size w w3∧Below W0.heap.size W0 w3):=by rw [← hw5];exact ⟨below_drew HB2.out.1 nq,below_drew HB2.out.2 nq⟩
     clear hw5
     have xr:=XR.out.up HB3.out.2
     have BF:=below_cell HB3.out.1 (w.heap.size+1+1) (by omega) (.slice none 0 0) (.slice none 0 0)
     have cf:=xr.set (.slice none 0 0) (.slice none 0 0)
     obtain ⟨r0,r1,r2,r3⟩:=xr
     obtain ⟨y0,y1,_,_⟩:=cf
     go_wp2
     exact bodyPost_ret (v:=.tuple #[.agg #[.slice none 0 0,.slice none 0 0],.int .i64 4]) (by simp [results,Tryz.results90,go_sem,y0,y1]) rfl ⟨_,rfl,TRes.none _ _,BF⟩
   ·obtain ⟨e1,e2,e3⟩:=m_shape hpq (fun h=>hn (by rw [← HD.out.1];exact h.2.2.1))
    rw [e1,e2,e3]
    have hne:((n:Int) != 2)=true:=by simp;omega
    have hne':¬ ((n:Int)=2):=by omega
    clear e1 e2 e3 hp hq hpq hd hx hd' hy h1 h2 h3 h4 HD HD' hn
    go_enter Tryz.func90,Tryz.ntmps90
    go_wp2_with fail
    generalize hW0:World.alloc _ _=W0
    have HB0:=hidB (w:=w) hW0 (by go_grown)
    have XA:Hid (Cel W0 w.heap.size (.slice p n c) (.slice p2 n2 c2)):=celW hW0 (by simp [go_sem])
    have XB:Hid (Cel W0 (w.heap.size+1) (.slice p3 n3 c3) (.slice p4 n4 c4)):=celW hW0 (by simp [go_sem])
    have XR:Hid (Cel W0 (w.heap.size+1+1) (.slice none 0 0) (.slice none 0 0)):=celW hW0 (by simp [go_sem])
    clear hW0
    refine (cA W0 HB0.out).mono ?_
    rintro e w1 ⟨rfl,hB1⟩
    have HB1:=hid2 (bstep HB0.out hB1) hB1
    clear hB1 cA
    obtain ⟨b0,b1,_,_⟩:=XB.out.up HB1.out.2
    go_wp2_with fail
    refine (cB w1 HB1.out.1).mono ?_
    rintro e w2 ⟨rfl,hB2⟩
    have HB2:=hid2 (bstep HB1.out.1 hB2) (bstep HB1.out.2 hB2)
    clear hB2 cB b0 b1 HB1
    obtain ⟨a0,a1,_,_⟩:=XA.out.up HB2.out.2
    obtain ⟨b0,b1,_,_⟩:=XB.out.up HB2.out.2
    have a9:=cell_lt a0
    have b9:=cell_lt b0
    go_wp2_with fail
    go_quiet (fail)
    generalize hw5:World.drewN w2 nq=w3
    have HB3:Hid (Below w.heap.size w w3∧Below W0.heap.size W0 w3):=by rw [← hw5];exact ⟨below_drew HB2.out.1 nq,below_drew HB2.out.2 nq⟩
    clear hw5
    have xr:=XR.out.up HB3.out.2
    have BF:=below_cell HB3.out.1 (w.heap.size+1+1) (by omega) (.slice none 0 0) (.slice none 0 0)
    have cf:=xr.set (.slice none 0 0) (.slice none 0 0)
    obtain ⟨r0,r1,r2,r3⟩:=xr
    obtain ⟨y0,y1,_,_⟩:=cf
    go_wp2
    exact bodyPost_ret (v:=.tuple #[.agg #[.slice none 0 0,.slice none 0 0],.int .i64 4]) (by simp [results,Tryz.results90,go_sem,y0,y1]) rfl ⟨_,rfl,TRes.none _ _,BF⟩
  ·rw [decide_eq_false hq] at cB
   obtain ⟨e1,e2,e3⟩:=m_arg (d:=d) (x:=x) (d':=d') (y:=y) (fun h=>hq h.2)
   rw [e1,e2,e3]
   clear e1 e2 e3 hp hq hd hx hd' hy h1 h2 h3 h4 HD HD'
   go_enter Tryz.func90,Tryz.ntmps90
   go_wp2_with fail
   generalize hW0:World.alloc _ _=W0
   have HB0:=hidB (w:=w) hW0 (by go_grown)
   have XA:Hid (Cel W0 w.heap.size (.slice p n c) (.slice p2 n2 c2)):=celW hW0 (by simp [go_sem])
   have XB:Hid (Cel W0 (w.heap.size+1) (.slice p3 n3 c3) (.slice p4 n4 c4)):=celW hW0 (by simp [go_sem])
   have XR:Hid (Cel W0 (w.heap.size+1+1) (.slice none 0 0) (.slice none 0 0)):=celW hW0 (by simp [go_sem])
   clear hW0
   refine (cA W0 HB0.out).mono ?_
   rintro e w1 ⟨rfl,hB1⟩
   have HB1:=hid2 (bstep HB0.out hB1) hB1
   clear hB1 cA
   obtain ⟨b0,b1,_,_⟩:=XB.out.up HB1.out.2
   go_wp2_with fail
   refine (cB w1 HB1.out.1).mono ?_
   rintro e w2 ⟨rfl,hB2⟩
   have HB2:=hid2 (bstep HB1.out.1 hB2) (bstep HB1.out.2 hB2)
   clear hB2 cB b0 b1 HB1
   have xr:=XR.out.up HB2.out.2
   have BF:=below_cell HB2.out.1 (w.heap.size+1+1) (by omega) (.slice none 0 0) (.slice none 0 0)
   have cf:=xr.set (.slice none 0 0) (.slice none 0 0)
   obtain ⟨r0,r1,r2,r3⟩:=xr
   obtain ⟨y0,y1,_,_⟩:=cf
   go_wp2
   exact bodyPost_ret (v:=.tuple #[.agg #[.slice none 0 0,.slice none 0 0],.int .i64 1]) (by simp [results,Tryz.results90,go_sem,y0,y1]) rfl ⟨_,rfl,TRes.none _ _,BF⟩
 ·rw [decide_eq_false hp] at cA
  obtain ⟨e1,e2,e3⟩:=m_arg (d:=d) (x:=x) (d':=d') (y:=y) (fun h=>hp h.1)
  rw [e1,e2,e3]
  clear e1 e2 e3 hp hd hx hd' hy h1 h2 h3 h4 HD HD' cB
  go_enter Tryz.func90,Tryz.ntmps90
  go_wp2_with fail
  generalize hW0:World.alloc _ _=W0
  have HB0:=hidB (w:=w) hW0 (by go_grown)
  have XA:Hid (Cel W0 w.heap.size (.slice p n c) (.slice p2 n2 c2)):=celW hW0 (by simp [go_sem])
  have XB:Hid (Cel W0 (w.heap.size+1) (.slice p3 n3 c3) (.slice p4 n4 c4)):=celW hW0 (by simp [go_sem])
  have XR:Hid (Cel W0 (w.heap.size+1+1) (.slice none 0 0) (.slice none 0 0)):=celW hW0 (by simp [go_sem])
  clear hW0
  refine (cA W0 HB0.out).mono ?_
  rintro e w1 ⟨rfl,hB1⟩
  have HB1:=hid2 (bstep HB0.out hB1) hB1
  clear hB1 cA
  have xr:=XR.out.up HB1.out.2
  have BF:=below_cell HB1.out.1 (w.heap.size+1+1) (by omega) (.slice none 0 0) (.slice none 0 0)
  have cf:=xr.set (.slice none 0 0) (.slice none 0 0)
  obtain ⟨r0,r1,r2,r3⟩:=xr
  obtain ⟨y0,y1,_,_⟩:=cf
  go_wp2
  exact bodyPost_ret (v:=.tuple #[.agg #[.slice none 0 0,.slice none 0 0],.int .i64 1]) (by simp [results,Tryz.results90,go_sem,y0,y1]) rfl ⟨_,rfl,TRes.none _ _,BF⟩
end Go.Proofs.YtlhpmjcdkpfjdaaGreatDoor.Wd
