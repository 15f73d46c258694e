/- The reference's Row, where the shapes fit. -/
import Derived.Test.YtlhpmjcdkpfjdaaGreatDoorY24
import Derived.Test.YtlhpmjcdkpfjdaaGreatDoorY12
set_option linter.unusedVariables false
set_option linter.unusedSimpArgs false
set_option maxHeartbeats 16000000
set_option maxRecDepth 16000
namespace Go.Proofs.YtlhpmjcdkpfjdaaGreatDoor.Wd
open Go.RowKit Fx
theorem rrow_fine (R L O wd st S:Nat) (hS:stopsN L wd st=S) (h0:1≤wd) (h1:wd≤L) (h2:L≤4096) (h3:1≤st) (h4:st≤64) (hR:1≤R) (hO:1≤O) (h5:O*R*wd≤4096) (h7:R*L≤4096) (h8:O≤4096) (h9:R≤4096) (qa oa qb ob:Nat) (p2 p4:Option Addr) (c n2 c2 c3 n4 c4:Nat) (x y:List Int) (hx:RI x) (hy:RI y) (hxl:x.length=R*L) (hyl:y.length=O*R*wd) (w:World) (ca0:w.cell? ⟨qa,oa,none⟩=some (.int .i64 (R:Int))) (ca1:w.cell? ⟨qa,oa+1,none⟩=some (.int .i64 (L:Int))) (cb0:w.cell? ⟨qb,ob,none⟩=some (.int .i64 (O:Int))) (cb1:w.cell? ⟨qb,ob+1,none⟩=some (.int .i64 (R:Int))) (cb2:w.cell? ⟨qb,ob+2,none⟩=some (.int .i64 (wd:Int))) (nx:Nums .i64 w (.slice p2 n2 c2) x) (ny:Nums .i64 w (.slice p4 n4 c4) y)
  (cA:∀ W,Below w.heap.size w W→Calls Tryz.prog 56 #[.agg #[.slice (some ⟨qa,oa,none⟩) 2 c,.slice p2 n2 c2]] W fun e w'=>e = .returned (.bool true)∧Below W.heap.size W w') (cB:∀ W,Below w.heap.size w W→Calls Tryz.prog 56 #[.agg #[.slice (some ⟨qb,ob,none⟩) 3 c3,.slice p4 n4 c4]] W fun e w'=>e = .returned (.bool true)∧Below W.heap.size W w'):
  Calls Tryz.prog 98 #[.agg #[.slice (some ⟨qa,oa,none⟩) 2 c,.slice p2 n2 c2],.agg #[.slice (some ⟨qb,ob,none⟩) 3 c3,.slice p4 n4 c4],.int .i64 (st:Int)] w fun e w'=>∃ v',e = .returned (.tuple #[v',.int .i64 (gatE [(O:Int),(S:Int)])])∧TRes w' w.heap.size v' (newD [(O:Int),(S:Int)]) (if goodN (ntl [(O:Int),(S:Int)]) then convV R L wd O S st x y else [])∧Below w.heap.size w w':=by
 obtain ⟨_,_,_,e4,HX⟩:=nx.lst
 cases e4
 obtain ⟨_,_,_,e4,HY⟩:=ny.lst
 cases e4
 have hSL:S≤4096:=by rw [← hS];exact Nat.le_trans (stops_le h0 h1) h2
 obtain ⟨Dq,eDq⟩:∃ D,L - wd=D:=⟨_,rfl⟩
 have eDq':(L:Int) - (wd:Int)=(Dq:Int):=by omega
 obtain ⟨qq,eqq⟩:∃ q,Dq / st=q:=⟨_,rfl⟩
 have eqq':(Dq:Int) / (st:Int)=(qq:Int):=by rw [← eqq];rfl
 have eSq:S=qq+1:=by rw [← hS];unfold stopsN;rw [eDq,eqq]
 have eSq':(qq:Int)+1=(S:Int):=by omega
 have hqq:(qq:Int)≤4096∧(Dq:Int)≤4096:=by omega
 have hi:1≤(wd:Int)∧(wd:Int)≤(L:Int)∧(L:Int)≤4096∧1≤(st:Int)∧(st:Int)≤64∧1≤(R:Int)∧(R:Int)≤4096∧1≤(O:Int)∧(O:Int)≤4096∧1≤(S:Int)∧(S:Int)≤4096:=by omega
 have hdL:decide ((L:Int) < (wd:Int))=false:=decide_eq_false (by omega)
 have hdLn:decide (L < wd)=false:=decide_eq_false (by omega)
 have hds:decide ((st:Int) < 1)=false:=decide_eq_false (by omega)
 have hds2:decide (64 < (st:Int))=false:=decide_eq_false (by omega)
 have hdL1:decide ((L:Int) < 1)=false:=decide_eq_false (by omega)
 have hdL2:decide (4096 < (L:Int))=false:=decide_eq_false (by omega)
 have hdw1:decide ((wd:Int) < 1)=false:=decide_eq_false (by omega)
 have hdw2:decide (4096 < (wd:Int))=false:=decide_eq_false (by omega)
 have hneR:((R:Int) != (R:Int))=false:=by simp
 have hneO:((O:Int) != (O:Int))=false:=by simp
 have hneS:((S:Int) != (S:Int))=false:=by simp
 haveI:Nonempty World:=⟨w⟩
 by_cases hg:goodN (ntl [(O:Int),(S:Int)])
 ·have HXY:Hid (RI x∧RI y∧x.length=R*L∧y.length=O*R*wd∧R*L≤4096∧O*R*wd≤4096):=⟨hx,hy,hxl,hyl,h7,h5⟩
  have HP:Hid (1≤O∧O*R*wd≤4096∧0 < wd∧(∀ n,n < S→n*st+wd≤L)∧True):=⟨hO,h5,h0,fun n hn=>stops_room h1 h3 (by rw [hS];exact hn),trivial⟩
  have cG:Hid (∀ W v,Nums .i64 W v [(O:Int),(S:Int)]→Calls Tryz.prog 86 #[v] W fun e w'=>e = .returned (.bool true)∧w'=W):=fun W v hv=>by
   have:=rgood_any v [(O:Int),(S:Int)] (RI_two h8 hSL) W hv
   rw [decide_eq_true hg] at this
   exact this
  have cN:Hid (∀ W v,Nums .i64 W v [(O:Int),(S:Int)]→Calls Tryz.prog 126 #[v,.int .i64 0] W fun e w'=>∃ v',e = .returned v'∧TNew w' W.heap.size v' [(O:Int),(S:Int)] (O*S) (List.replicate (O*S) 0)∧Below W.heap.size W w'):=fun W v hv=>by
   have:=rnew_any v [(O:Int),(S:Int)] (RI_two h8 hSL) hg 0 W hv
   rw [prod_two] at this
   exact this
  rw [show gatE [(O:Int),(S:Int)]=0 from if_pos hg,show newD [(O:Int),(S:Int)] = [(O:Int),(S:Int)] from if_pos hg,if_pos hg]
  have hNMb:1≤O*S∧O*S≤4096:=⟨by have:=hg.pos;rw [prod_two] at this;exact this,by have:=hg.2.2;rw [prod_two] at this;exact this⟩
  obtain ⟨V,eV⟩:∃ V,convV R L wd O S st x y=V:=⟨_,rfl⟩
  obtain ⟨NM,eNM⟩:∃ N,O*S=N:=⟨_,rfl⟩
  obtain ⟨DOL,eDOL⟩:∃ D,[(O:Int),(S:Int)]=D:=⟨_,rfl⟩
  have HV:Hid (V=convV R L wd O S st x y∧V.length=NM∧O*S=NM):=⟨eV.symm,by rw [← eV,convV_len,eNM],eNM⟩
  rw [eNM] at hNMb cN
  rw [eV,eDOL]
  have HDO:Hid ([(O:Int),(S:Int)]=DOL):=eDOL
  have hNM':1≤(NM:Int)∧(NM:Int)≤4096:=by omega
  clear eV eNM eDOL hx hy hxl hyl nx ny hS h0 h1 h2 h3 h4 hR hO h8 h9 h5 h7 hg eDq eqq eSq hSL
  go_enter Tryz.func98,Tryz.ntmps98
  go_wp2_with fail
  generalize hW0:World.alloc _ _=W0
  have HB0:=hidB (w:=w) hW0 (by go_grown)
  have XA:Hid (Cel W0 w.heap.size (.slice (some ⟨qa,oa,none⟩) 2 c) (.slice p2 n2 c2)):=celW hW0 (by simp [go_sem])
  have XB:Hid (Cel W0 (w.heap.size+1) (.slice (some ⟨qb,ob,none⟩) 3 c3) (.slice p4 n4 c4)):=celW hW0 (by simp [go_sem])
  have XR:Hid (Cel W0 (w.heap.size+1+1) (.slice none 0 0) (.slice none 0 0)):=celW hW0 (by simp [go_sem])
  clear hW0
  refine (cA W0 HB0.out).mono ?_
  rintro e w1 ⟨rfl,hB1⟩
  have HB1:=hid2 (bstep HB0.out hB1) hB1
  clear hB1 cA
  obtain ⟨b0,b1,_,_⟩:=XB.out.up HB1.out.2
  go_wp2_with fail
  refine (cB w1 HB1.out.1).mono ?_
  rintro e w2 ⟨rfl,hB2⟩
  have HB2:=hid2 (bstep HB1.out.1 hB2) (bstep HB1.out.2 hB2)
  clear hB2 cB b0 b1 HB1
  obtain ⟨a0,a1,_,_⟩:=XA.out.up HB2.out.2
  obtain ⟨b0,b1,_,_⟩:=XB.out.up HB2.out.2
  have a9:=cell_lt a0
  have b9:=cell_lt b0
  have ua0:=cell_low ca0 HB2.out.1
  have la0:=cell_lt ua0
  have ua1:=cell_low ca1 HB2.out.1
  have la1:=cell_lt ua1
  have ub0:=cell_low cb0 HB2.out.1
  have lb0:=cell_lt ub0
  have ub1:=cell_low cb1 HB2.out.1
  have lb1:=cell_lt ub1
  have ub2:=cell_low cb2 HB2.out.1
  have lb2:=cell_lt ub2
  go_wp2_with fail
  go_quiet (fail)
  generalize hw5:World.drewN w2 nq=w3
  have HB3:Hid (Below w.heap.size w w3∧Below W0.heap.size W0 w3):=by rw [← hw5];exact ⟨below_drew HB2.out.1 nq,below_drew HB2.out.2 nq⟩
  clear hw5
  clear a0 a1 b0 b1 a9 b9 ua0 la0 ua1 la1 ub0 lb0 ub1 lb1 ub2 lb2
  obtain ⟨a0,a1,_,_⟩:=XA.out.up HB3.out.2
  obtain ⟨b0,b1,_,_⟩:=XB.out.up HB3.out.2
  have a9:=cell_lt a0
  have b9:=cell_lt b0
  have ua0:=cell_low ca0 HB3.out.1
  have la0:=cell_lt ua0
  have ua1:=cell_low ca1 HB3.out.1
  have la1:=cell_lt ua1
  have ub0:=cell_low cb0 HB3.out.1
  have lb0:=cell_lt ub0
  have ub1:=cell_low cb1 HB3.out.1
  have lb1:=cell_lt ub1
  have ub2:=cell_low cb2 HB3.out.1
  have lb2:=cell_lt ub2
  go_wp2_with fail
  go_quiet (fail)
  generalize hw5:World.drewN w3 nq=w4
  have HB4:Hid (Below w.heap.size w w4∧Below W0.heap.size W0 w4):=by rw [← hw5];exact ⟨below_drew HB3.out.1 nq,below_drew HB3.out.2 nq⟩
  clear hw5
  clear a0 a1 b0 b1 a9 b9 ua0 la0 ua1 la1 ub0 lb0 ub1 lb1 ub2 lb2
  go_wp2_with fail
  generalize hW5:World.alloc _ _=W5
  have hB5:Below w4.heap.size w4 W5:=by rw [← hW5];exact up_alloc w4 _
  have HB5:=hid2 (bstep HB4.out.1 hB5) (bstep HB4.out.2 hB5)
  have HL5:Hid (Nums .i64 W5 (.slice (some ⟨w4.heap.size,0,none⟩) 2 2) [(O:Int),(S:Int)]):=by show Nums _ _ _ _;rw [← hW5];exact nums_lit (k:=.i64) w4 [(O:Int),(S:Int)] 2 (0,0) rfl
  clear hW5 hB5 HB3 HB4
  refine (cG.out W5 _ HL5.out).mono ?_
  rintro e w6 ⟨rfl,rfl⟩
  clear HL5
  go_wp2_with fail
  generalize hW7:World.alloc _ _=W7
  have hB7:Below w6.heap.size w6 W7:=by rw [← hW7];exact up_alloc w6 _
  have HB7:=hid2 (bstep HB5.out.1 hB7) (bstep HB5.out.2 hB7)
  have HL7:Hid (Nums .i64 W7 (.slice (some ⟨w6.heap.size,0,none⟩) 2 2) [(O:Int),(S:Int)]):=by show Nums _ _ _ _;rw [← hW7];exact nums_lit (k:=.i64) w6 [(O:Int),(S:Int)] 2 (0,0) rfl
  clear hW7 hB7 HB5 cG
  refine (cN.out W7 _ HL7.out).mono ?_
  rintro e w8 ⟨v8,rfl,⟨s8,g,cg,rfl,hs8,ht8,hOff,hgB⟩,hB8⟩
  rw [HDO.out] at hs8
  obtain ⟨p8,n8,c8,rfl,_⟩:=hs8.nums.lst
  clear HL7 cN
  go_wp2_with fail
  generalize hW9:World.alloc _ _=W9
  have B9:Below w8.heap.size w8 W9:=by rw [← hW9];exact up_alloc w8 _
  have XT:Hid (Cel W9 w8.heap.size (.slice p8 n8 c8) (.slice (some ⟨g,0,none⟩) NM cg)):=by show Cel _ _ _ _;unfold Cel;rw [← hW9];simp [go_sem]
  have HB9:Hid (Below w.heap.size w W9∧Below W0.heap.size W0 W9):=⟨bstep HB7.out.1 (bstep hB8 B9),bstep HB7.out.2 (bstep hB8 B9)⟩
  have HD9:Hid (OwnK .i64 3 W9 W7.heap.size (.slice p8 n8 c8) DOL∧Off g (.slice p8 n8 c8)):=⟨hs8.up B9,hOff⟩
  have HO9:Hid (OwnK .i64 33 W9 g (.slice (some ⟨g,0,none⟩) NM cg) (rowF V (0*S))):=by
   show OwnK _ _ _ _ _ _
   rw [Nat.zero_mul,rowF_zero,HV.out.2.1]
   exact (ht8.up B9).base
  have hz:=cell_lt XR.out.1
  have hgl:=ht8.size
  have Hg:Hid (W0.heap.size≤g∧w.heap.size+1+1 < W0.heap.size∧g < w8.heap.size∧W0.heap.size≤W7.heap.size):=⟨Nat.le_trans HB7.out.2.size hgB,hz,hgl,HB7.out.2.size⟩
  obtain ⟨b8,hb8⟩:∃ b8,w8.heap.size=b8:=⟨_,rfl⟩
  rw [hb8] at XT Hg ⊢
  clear hW9 B9 hz hgl hs8 ht8 hB8 hgB hOff HB7 hb8 HDO
  go_loopg [14] O (fun gg i wr=>∃ (I:Nat),I≤O∧gg=O - I∧i = .int .i64 (I:Int)∧Hid (OwnK .i64 33 wr g (.slice (some ⟨g,0,none⟩) NM cg) (rowF V (I*S)))∧Hid (Below w.heap.size w wr∧Stay g W9 wr))
  case atStart=>exact ⟨0,by omega,by omega,by first|rfl|simp,HO9,HB9.out.1,Stay.refl _ _⟩
  case round=>
   obtain ⟨I,hI,hgI,rfl,HRI,hBI⟩:=hrel
   obtain ⟨R1,hR1⟩:∃ q:World,q=wr:=⟨_,rfl⟩
   subst hR1
   by_cases hIn:I < O
   ·have hIn':(I:Int) < (O:Int):=by omega
    go_wp2_with fail
    rw [show I*S=I*S+0 from rfl] at HRI
    go_loopg [15] S (fun gg i wr=>∃ (J:Nat),J≤S∧gg=S - J∧i = .int .i64 (J:Int)∧Hid (OwnK .i64 33 wr g (.slice (some ⟨g,0,none⟩) NM cg) (rowF V (I*S+J)))∧Hid (Below w.heap.size w wr∧Stay g W9 wr))
    case atStart=>exact ⟨0,by omega,by omega,by first|rfl|simp,HRI,hBI⟩
    case round=>
     obtain ⟨J,hJ,hgJ,rfl,HRJ,hBS⟩:=hrel
     obtain ⟨R2,hR2⟩:∃ q:World,q=wr:=⟨_,rfl⟩
     subst hR2
     by_cases hJn:J < S
     ·have hJn':(J:Int) < (S:Int):=by omega
      go_wp2_with fail
      have L20:Hid (LiesS (R2.alloc (.cells #[.bool false,.int .u64 0,.int .u64 0,.int .u64 0,.int .u64 0] 151)) R2.heap.size (flatS (fun x' y'=>x.getD (x'*L+J*st+y') 0*y.getD ((I*R+x')*wd+y') 0) wd (0*wd))):=by show LiesS _ _ _;rw [Nat.zero_mul,flat_zero];exact liesS_new R2 _
      go_loopg [17] R (fun gg i wr=>∃ (P:Nat),P≤R∧gg=R - P∧i = .int .i64 (P:Int)∧Hid (LiesS wr R2.heap.size (flatS (fun x' y'=>x.getD (x'*L+J*st+y') 0*y.getD ((I*R+x')*wd+y') 0) wd (P*wd)))∧Hid (Below R2.heap.size R2 wr))
      case atStart=>exact ⟨0,by omega,by omega,by first|rfl|simp,L20,up_alloc R2 _⟩
      case round=>
       obtain ⟨P,hP,hgP,rfl,LP,hBP⟩:=hrel
       obtain ⟨R3,hR3⟩:∃ q:World,q=wr:=⟨_,rfl⟩
       subst hR3
       by_cases hPn:P < R
       ·have hPn':(P:Int) < (R:Int):=by omega
        go_wp2_with fail
        rw [show P*wd=P*wd+0 from rfl] at LP
        go_loopg [18] wd (fun gg i wr=>∃ (Q:Nat),Q≤wd∧gg=wd - Q∧i = .int .i64 (Q:Int)∧Hid (LiesS wr R2.heap.size (flatS (fun x' y'=>x.getD (x'*L+J*st+y') 0*y.getD ((I*R+x')*wd+y') 0) wd (P*wd+Q)))∧Hid (Below R2.heap.size R2 wr))
        case atStart=>exact ⟨0,by omega,by omega,by first|rfl|simp,LP,hBP⟩
        case round=>
         obtain ⟨Q,hQ,hgQ,rfl,L0,hBQ⟩:=hrel
         obtain ⟨R4,hR4⟩:∃ q:World,q=wr:=⟨_,rfl⟩
         subst hR4
         by_cases hQn:Q < wd
         ·have hQn':(Q:Int) < (wd:Int):=by omega
          have xA:Cel R4 w.heap.size (.slice (some ⟨qa,oa,none⟩) 2 c) (.slice p2 n2 c2):=((XA.out.up HB9.out.2).stay hBS.out.2 (by have:=Hg.out;omega)).up hBQ.out
          have xB:Cel R4 (w.heap.size+1) (.slice (some ⟨qb,ob,none⟩) 3 c3) (.slice p4 n4 c4):=((XB.out.up HB9.out.2).stay hBS.out.2 (by have:=Hg.out;omega)).up hBQ.out
          have hBw:Below w.heap.size w R4:=bstep hBS.out.1 hBQ.out
          have hAx:P*L+J*st+Q < R*L:=by have q1:=HP.out.2.2.2.1 J hJn;have q2:(P+1)*L≤R*L:=Nat.mul_le_mul_right L hPn;rw [Nat.add_mul,Nat.one_mul] at q2;omega
          have hBy:(I*R+P)*wd+Q < O*R*wd:=pair_lt (pair_lt hIn hPn) hQn
          have hA4:R*L≤4096∧O*R*wd≤4096:=⟨HXY.out.2.2.2.2.1,HXY.out.2.2.2.2.2⟩
          have hn2x:n2=R*L:=by rw [← HX.out.1];exact HXY.out.2.2.1
          have hn4y:n4=O*R*wd:=by rw [← HY.out.1];exact HXY.out.2.2.2.1
          obtain ⟨qx,ox,ex2,hcx⟩:=HX.out.2 (P*L+J*st+Q) (by omega)
          obtain ⟨qy,oy,ey4,hcy⟩:=HY.out.2 ((I*R+P)*wd+Q) (by omega)
          subst ex2 ey4
          have hcx1:=cell_low hcx hBw
          have hcy1:=cell_low hcy hBw
          have ltx:=cell_lt hcx1
          have lty:=cell_lt hcy1
          have hXr:=getD_inR HXY.out.1 (P*L+J*st+Q)
          have hYr:=getD_inR HXY.out.2.1 ((I*R+P)*wd+Q)
          have hcnt:P*wd+Q < R*wd:=pair_lt hPn hQn
          have hcnt2:R*wd≤O*R*wd:=by rw [Nat.mul_assoc];exact Nat.le_mul_of_pos_left _ HP.out.1
          have hcnt3:O*R*wd≤4096:=HP.out.2.1
          have hroom:((flatS (fun x' y'=>x.getD (x'*L+J*st+y') 0*y.getD ((I*R+x')*wd+y') 0) wd (P*wd+Q)).natAbs:Int)+((x.getD (P*L+J*st+Q) 0*y.getD ((I*R+P)*wd+Q) 0).natAbs:Int) < 115792089237316195423570985008687907853269984665640564039457584007913129639936:=by
           have q1:=flat_room (f:=(fun x' y'=>x.getD (x'*L+J*st+y') 0*y.getD ((I*R+x')*wd+y') 0)) (B:=85070591730234615865843651857942052864) (by omega) wd (P*wd+Q) (fun q _=>prod_rng (getD_inR HXY.out.1 _) (getD_inR HXY.out.2.1 _))
           have q2:=prod_rng hXr hYr
           generalize x.getD (P*L+J*st+Q) 0*y.getD ((I*R+P)*wd+Q) 0=z at *
           generalize flatS (fun x' y'=>x.getD (x'*L+J*st+y') 0*y.getD ((I*R+x')*wd+y') 0) wd (P*wd+Q)=z' at *
           omega
          have eS:flatS (fun x' y'=>x.getD (x'*L+J*st+y') 0*y.getD ((I*R+x')*wd+y') 0) wd (P*wd+(Q+1))=flatS (fun x' y'=>x.getD (x'*L+J*st+y') 0*y.getD ((I*R+x')*wd+y') 0) wd (P*wd+Q)+x.getD (P*L+J*st+Q) 0*y.getD ((I*R+P)*wd+Q) 0:=flat_step _ hQn
          obtain ⟨SS,eS0⟩:∃ q9:Int,flatS (fun x' y'=>x.getD (x'*L+J*st+y') 0*y.getD ((I*R+x')*wd+y') 0) wd (P*wd+Q)=q9:=⟨_,rfl⟩
          rw [eS0] at L0 eS hroom
          obtain ⟨X,eX⟩:∃ X,x.getD (P*L+J*st+Q) 0=X:=⟨_,rfl⟩
          obtain ⟨Y,eY⟩:∃ Y,y.getD ((I*R+P)*wd+Q) 0=Y:=⟨_,rfl⟩
          rw [eX] at hcx1 hXr
          rw [eY] at hcy1 hYr
          rw [eX,eY] at hroom eS
          have HS:Hid (flatS (fun x' y'=>x.getD (x'*L+J*st+y') 0*y.getD ((I*R+x')*wd+y') 0) wd (P*wd+(Q+1))=SS+X*Y):=eS
          obtain ⟨ixA,eixA⟩:∃ q,P*L=q:=⟨_,rfl⟩
          have eixA':(P:Int)*(L:Int)=(ixA:Int):=by rw [← eixA];push_cast;rfl
          obtain ⟨ixB,eixB⟩:∃ q,J*st=q:=⟨_,rfl⟩
          have eixB':(J:Int)*(st:Int)=(ixB:Int):=by rw [← eixB];push_cast;rfl
          obtain ⟨ixC,eixC⟩:∃ q,ixA+ixB=q:=⟨_,rfl⟩
          have eixC':(ixA:Int)+(ixB:Int)=(ixC:Int):=by omega
          obtain ⟨ixD,eixD⟩:∃ q,ixC+Q=q:=⟨_,rfl⟩
          have eixD':(ixC:Int)+(Q:Int)=(ixD:Int):=by omega
          rw [eixA,eixB,eixC,eixD] at hAx hcx1
          obtain ⟨iyA,eiyA⟩:∃ q,I*R=q:=⟨_,rfl⟩
          have eiyA':(I:Int)*(R:Int)=(iyA:Int):=by rw [← eiyA];push_cast;rfl
          obtain ⟨iyB,eiyB⟩:∃ q,iyA+P=q:=⟨_,rfl⟩
          have eiyB':(iyA:Int)+(P:Int)=(iyB:Int):=by omega
          have miy:iyB≤iyB*wd:=Nat.le_mul_of_pos_right _ HP.out.2.2.1
          obtain ⟨iyC,eiyC⟩:∃ q,iyB*wd=q:=⟨_,rfl⟩
          have eiyC':(iyB:Int)*(wd:Int)=(iyC:Int):=by rw [← eiyC];push_cast;rfl
          rw [eiyC] at miy
          obtain ⟨iyD,eiyD⟩:∃ q,iyC+Q=q:=⟨_,rfl⟩
          have eiyD':(iyC:Int)+(Q:Int)=(iyD:Int):=by omega
          rw [eiyA,eiyB,eiyC,eiyD] at hBy hcy1
          have bnd:(ixD:Int) < (n2:Int)∧(iyD:Int) < (n4:Int)∧(n2:Int)≤4096∧(n4:Int)≤4096∧(ixA:Int)≤4096∧(ixB:Int)≤4096∧(ixC:Int)≤4096∧(ixD:Int)≤4096∧(iyA:Int)≤4096∧(iyB:Int)≤4096∧(iyC:Int)≤4096∧(iyD:Int)≤4096:=by omega
          obtain ⟨r,u0,u1,u2,u3,lt9,q0,q1,q2,q3,q4,z0,z1,z2,z3,z4,hN⟩:=L0.out
          obtain ⟨zp,hp,cTi⟩:=Rf.timesD hXr hYr
          obtain ⟨pr,v0,v1,v2,v3,rfl,hp⟩:=hp.agg
          obtain ⟨zs,hs,cPl⟩:=Rf.plusD hN hp hroom
          obtain ⟨sr,t0,t1,t2,t3,rfl,hs⟩:=hs.agg
          have HSs:Hid (Rf.IsS (.agg #[.bool sr,.int .u64 t0,.int .u64 t1,.int .u64 t2,.int .u64 t3]) (SS+X*Y)):=hs
          obtain ⟨a0,a1,_,_⟩:=xA
          obtain ⟨b0,b1,_,_⟩:=xB
          have a9:=cell_lt a0
          have b9:=cell_lt b0
          clear eX eY eS0 eS hroom hXr hYr hcx hcy hN hp hs eixA eixB eixC eixD eiyA eiyB eiyC eiyD miy hAx hBy hA4 hn2x hn4y hBw
          go_wp2_with fail
          refine flow 29 163 (by kernel_rfl) rfl rfl (by kernel_rfl) ?_
          apply Exists.intro
          refine ⟨?_,?_⟩
          ·intro F hF
           have hFc:=hF.cell
           have hFf:=hF.frozen
           simp only [List.take_succ_cons,List.take_zero,List.eraseIdx_cons_succ,List.eraseIdx_cons_zero]
           repeat (go_big_quiet_step (first|(go_at_call 132;with_reducible exact hF.call (cTi _))|(go_at_call 131;with_reducible exact hF.call (cPl _))))
           refine wpQuiet_nil ?_
           exact rfl
          ·intro W2 hW2
           simp only [List.drop_succ_cons,List.drop_zero]
           have M:=L0.out.up hW2
           have N0:Hid (LiesS (((((W2.setCell ⟨R2.heap.size,0,none⟩ (.bool sr)).setCell ⟨R2.heap.size,1,none⟩ (.int .u64 t0)).setCell ⟨R2.heap.size,2,none⟩ (.int .u64 t1)).setCell ⟨R2.heap.size,3,none⟩ (.int .u64 t2)).setCell ⟨R2.heap.size,4,none⟩ (.int .u64 t3)) R2.heap.size (SS+X*Y)):=M.set HSs.out
           have B2:Hid (Below R2.heap.size R2 (((((W2.setCell ⟨R2.heap.size,0,none⟩ (.bool sr)).setCell ⟨R2.heap.size,1,none⟩ (.int .u64 t0)).setCell ⟨R2.heap.size,2,none⟩ (.int .u64 t1)).setCell ⟨R2.heap.size,3,none⟩ (.int .u64 t2)).setCell ⟨R2.heap.size,4,none⟩ (.int .u64 t3))):=below_set5 (bstep hBQ.out hW2) _ (Nat.le_refl _) _ _ _ _ _
           obtain ⟨r',w0,w1_,w2_,w3_,lt9',q0',q1',q2',q3',q4',z0',z1',z2',z3',z4',_⟩:=M
           clear hW2 cTi cPl q0 q1 q2 q3 q4 z0 z1 z2 z3 z4 lt9 L0 hBQ hcx1 hcy1 ltx lty a0 a1 b0 b1 a9 b9
           go_wp2
           go_roundg (wd - (Q+1))
           case measure=>omega
           case rel=>exact ⟨Q+1,by omega,rfl,by first|rfl|simp,by rw [HS.out];exact N0,B2⟩
         ·obtain rfl:wd=Q:=by omega
          rw [flat_row] at L0
          go_wp2
          go_roundg (R - (P+1))
          case measure=>omega
          case rel=>exact ⟨P+1,by omega,rfl,by first|rfl|simp,L0,hBQ⟩
       ·obtain rfl:R=P:=by omega
        have xT:Cel R3 b8 (.slice p8 n8 c8) (.slice (some ⟨g,0,none⟩) NM cg):=(XT.out.stay hBS.out.2 (by have:=Hg.out;omega)).up hBP.out
        have hIJ:I*S+J < O*S:=pair_lt hIn hJn
        have eZ:V.getD (I*S+J) 0=rnd (flatS (fun x' y'=>x.getD (x'*L+J*st+y') 0*y.getD ((I*R+x')*wd+y') 0) wd (R*wd)):=by
         rw [HV.out.1,convV_at _ _ _ _ _ _ _ _ _ hIJ]
         unfold convN
         rw [pair_div _ _ _ hJn,pair_mod _ _ _ hJn]
        obtain ⟨SS,eS0⟩:∃ q9:Int,flatS (fun x' y'=>x.getD (x'*L+J*st+y') 0*y.getD ((I*R+x')*wd+y') 0) wd (R*wd)=q9:=⟨_,rfl⟩
        rw [eS0] at LP eZ
        rw [HV.out.2.2] at hIJ
        obtain ⟨ivA,eivA⟩:∃ q,I*S=q:=⟨_,rfl⟩
        have eivA':(I:Int)*(S:Int)=(ivA:Int):=by rw [← eivA];push_cast;rfl
        obtain ⟨ivD,eivD⟩:∃ q,ivA+J=q:=⟨_,rfl⟩
        have eivD':(ivA:Int)+(J:Int)=(ivD:Int):=by omega
        rw [eivA,eivD] at hIJ eZ HRJ
        have HNx:Hid (I*S+(J+1)=ivD+1):=by show _=_;rw [eivA];omega
        obtain ⟨Z,eZ2⟩:∃ Z,V.getD ivD 0=Z:=⟨_,rfl⟩
        have HZ:Hid (V.getD ivD 0=Z):=eZ2
        have bnd:(ivD:Int) < (NM:Int)∧(ivA:Int)≤4096∧(ivD:Int)≤4096:=by omega
        obtain ⟨r,u0,u1,u2,u3,lt9,q0,q1,q2,q3,q4,z0,z1,z2,z3,z4,hN⟩:=LP.out
        obtain ⟨zh,hh,cHa⟩:=Rf.halvedD hN
        obtain ⟨hr,v0,v1,v2,v3,rfl,hh⟩:=hh.agg
        have cHe:∀ W,Calls Tryz.prog 133 #[.agg #[.bool hr,.int .u64 v0,.int .u64 v1,.int .u64 v2,.int .u64 v3]] W fun e w'=>e = .returned (.int .i64 Z)∧Below W.heap.size W w':=fun W=>by
         rw [← eZ2,eZ]
         exact Rf.heldS _ _ hh W
        obtain ⟨t0,t1,_,_⟩:=xT
        have t9:=cell_lt t0
        clear eZ eZ2 eS0 eivA eivD hN hh
        go_wp2_with fail
        refine flow 11 163 (by kernel_rfl) rfl rfl (by kernel_rfl) ?_
        apply Exists.intro
        refine ⟨?_,?_⟩
        ·intro F hF
         have hFc:=hF.cell
         have hFf:=hF.frozen
         simp only [List.take_succ_cons,List.take_zero,List.eraseIdx_cons_succ,List.eraseIdx_cons_zero]
         repeat (go_big_quiet_step (first|(go_at_call 134;with_reducible exact hF.call (cHa _))|(go_at_call 133;with_reducible exact hF.call (cHe _))))
         refine wpQuiet_nil ?_
         exact rfl
        ·intro W2 hW2
         simp only [List.drop_succ_cons,List.drop_zero]
         have hB2:=bstep hBP.out hW2
         have HR2:=HRJ.out.up hB2
         obtain ⟨hown,hfz⟩:=HR2.cell (by rw [rowF_len];exact HV.out.2.1) ivD hIJ
         have lt2:=cell_lt hown
         have H5:Hid (OwnK .i64 33 (W2.setCell ⟨g,ivD,none⟩ (.int .i64 Z)) g (.slice (some ⟨g,0,none⟩) NM cg) (rowF V (I*S+(J+1)))):=by
          have:=HR2.store (by rw [rowF_len];exact HV.out.2.1) ivD Z
          rw [← HZ.out,rowF_set V ivD (by rw [HV.out.2.1];exact hIJ)] at this
          rw [← HZ.out]
          show OwnK _ _ _ _ _ _
          rw [HNx.out]
          exact this
         have hgw:w.heap.size≤g:=by have:=Hg.out;omega
         have H6:Hid (Below w.heap.size w (W2.setCell ⟨g,ivD,none⟩ (.int .i64 Z))∧Stay g W9 (W2.setCell ⟨g,ivD,none⟩ (.int .i64 Z))):=⟨(bstep hBS.out.1 hB2).setCell (p:=⟨g,ivD,none⟩) hgw _,(hBS.out.2.up hB2).set _ _⟩
         clear hW2 hB2 HR2 cHa cHe q0 q1 q2 q3 q4 z0 z1 z2 z3 z4 lt9 LP hBP t0 t1 t9
         go_wp2
         go_roundg (S - (J+1))
         case measure=>omega
         case rel=>exact ⟨J+1,by omega,rfl,by first|rfl|simp,H5,H6⟩
     ·obtain rfl:S=J:=by omega
      have H7:Hid (OwnK .i64 33 R2 g (.slice (some ⟨g,0,none⟩) NM cg) (rowF V ((I+1)*S))):=by
       show OwnK _ _ _ _ _ _
       rw [Nat.add_mul,Nat.one_mul]
       exact HRJ.out
      go_wp2
      go_roundg (O - (I+1))
      case measure=>omega
      case rel=>exact ⟨I+1,by omega,rfl,by first|rfl|simp,H7,hBS⟩
   ·obtain rfl:O=I:=by omega
    have hfin:=HRI.out
    rw [HV.out.2.2,← HV.out.2.1,rowF_full,HV.out.2.1] at hfin
    have xR:Cel R1 (w.heap.size+1+1) (.slice none 0 0) (.slice none 0 0):=(XR.out.up HB9.out.2).stay hBI.out.2 (by have:=Hg.out;omega)
    have xT:Cel R1 b8 (.slice p8 n8 c8) (.slice (some ⟨g,0,none⟩) NM cg):=XT.out.stay hBI.out.2 (by have:=Hg.out;omega)
    have o1:=HD9.out.1.stay hBI.out.2 HD9.out.2
    have HF:Hid (TRes (set2 R1 (w.heap.size+1+1) (.slice p8 n8 c8) (.slice (some ⟨g,0,none⟩) NM cg)) w.heap.size (.agg #[.slice p8 n8 c8,.slice (some ⟨g,0,none⟩) NM cg]) DOL V∧Below w.heap.size w (set2 R1 (w.heap.size+1+1) (.slice p8 n8 c8) (.slice (some ⟨g,0,none⟩) NM cg))):=
     ⟨(TRes.set (B:=W0.heap.size) (o1.low Hg.out.2.2.2) (hfin.low Hg.out.1) Hg.out.2.1).low (by have:=Hg.out;omega),below_cell hBI.out.1 _ (by omega) _ _⟩
    have cf:=xR.set (.slice p8 n8 c8) (.slice (some ⟨g,0,none⟩) NM cg)
    obtain ⟨t0,t1,_,_⟩:=xT
    obtain ⟨r0,r1,r2,r3⟩:=xR
    obtain ⟨y0,y1,_,_⟩:=cf
    have t9:=cell_lt t0
    clear hfin o1
    go_wp2
    exact bodyPost_ret (v:=.tuple #[.agg #[.slice p8 n8 c8,.slice (some ⟨g,0,none⟩) NM cg],.int .i64 0]) (by simp [results,Tryz.results98,go_sem,y0,y1]) rfl ⟨_,rfl,HF.out⟩
 ·have cG:Hid (∀ W v,Nums .i64 W v [(O:Int),(S:Int)]→Calls Tryz.prog 86 #[v] W fun e w'=>e = .returned (.bool false)∧w'=W):=fun W v hv=>by
   have:=rgood_any v [(O:Int),(S:Int)] (RI_two h8 hSL) W hv
   rw [decide_eq_false hg] at this
   exact this
  rw [show gatE [(O:Int),(S:Int)]=2 from if_neg hg,show newD [(O:Int),(S:Int)] = [] from if_neg hg,if_neg hg]
  clear hx hy hxl hyl nx ny HX HY hg hS eDq eqq eSq hSL
  go_enter Tryz.func98,Tryz.ntmps98
  go_wp2_with fail
  generalize hW0:World.alloc _ _=W0
  have HB0:=hidB (w:=w) hW0 (by go_grown)
  have XA:Hid (Cel W0 w.heap.size (.slice (some ⟨qa,oa,none⟩) 2 c) (.slice p2 n2 c2)):=celW hW0 (by simp [go_sem])
  have XB:Hid (Cel W0 (w.heap.size+1) (.slice (some ⟨qb,ob,none⟩) 3 c3) (.slice p4 n4 c4)):=celW hW0 (by simp [go_sem])
  have XR:Hid (Cel W0 (w.heap.size+1+1) (.slice none 0 0) (.slice none 0 0)):=celW hW0 (by simp [go_sem])
  clear hW0
  refine (cA W0 HB0.out).mono ?_
  rintro e w1 ⟨rfl,hB1⟩
  have HB1:=hid2 (bstep HB0.out hB1) hB1
  clear hB1 cA
  obtain ⟨b0,b1,_,_⟩:=XB.out.up HB1.out.2
  go_wp2_with fail
  refine (cB w1 HB1.out.1).mono ?_
  rintro e w2 ⟨rfl,hB2⟩
  have HB2:=hid2 (bstep HB1.out.1 hB2) (bstep HB1.out.2 hB2)
  clear hB2 cB b0 b1 HB1
  obtain ⟨a0,a1,_,_⟩:=XA.out.up HB2.out.2
  obtain ⟨b0,b1,_,_⟩:=XB.out.up HB2.out.2
  have a9:=cell_lt a0
  have b9:=cell_lt b0
  have ua0:=cell_low ca0 HB2.out.1
  have la0:=cell_lt ua0
  have ua1:=cell_low ca1 HB2.out.1
  have la1:=cell_lt ua1
  have ub0:=cell_low cb0 HB2.out.1
  have lb0:=cell_lt ub0
  have ub1:=cell_low cb1 HB2.out.1
  have lb1:=cell_lt ub1
  have ub2:=cell_low cb2 HB2.out.1
  have lb2:=cell_lt ub2
  go_wp2_with fail
  go_quiet (fail)
  generalize hw5:World.drewN w2 nq=w3
  have HB3:Hid (Below w.heap.size w w3∧Below W0.heap.size W0 w3):=by rw [← hw5];exact ⟨below_drew HB2.out.1 nq,below_drew HB2.out.2 nq⟩
  clear hw5
  clear a0 a1 b0 b1 a9 b9 ua0 la0 ua1 la1 ub0 lb0 ub1 lb1 ub2 lb2
  obtain ⟨a0,a1,_,_⟩:=XA.out.up HB3.out.2
  obtain ⟨b0,b1,_,_⟩:=XB.out.up HB3.out.2
  have a9:=cell_lt a0
  have b9:=cell_lt b0
  have ua0:=cell_low ca0 HB3.out.1
  have la0:=cell_lt ua0
  have ua1:=cell_low ca1 HB3.out.1
  have la1:=cell_lt ua1
  have ub0:=cell_low cb0 HB3.out.1
  have lb0:=cell_lt ub0
  have ub1:=cell_low cb1 HB3.out.1
  have lb1:=cell_lt ub1
  have ub2:=cell_low cb2 HB3.out.1
  have lb2:=cell_lt ub2
  go_wp2_with fail
  go_quiet (fail)
  generalize hw5:World.drewN w3 nq=w4
  have HB4:Hid (Below w.heap.size w w4∧Below W0.heap.size W0 w4):=by rw [← hw5];exact ⟨below_drew HB3.out.1 nq,below_drew HB3.out.2 nq⟩
  clear hw5
  clear a0 a1 b0 b1 a9 b9 ua0 la0 ua1 la1 ub0 lb0 ub1 lb1 ub2 lb2
  go_wp2_with fail
  generalize hW5:World.alloc _ _=W5
  have hB5:Below w4.heap.size w4 W5:=by rw [← hW5];exact up_alloc w4 _
  have HB5:=hid2 (bstep HB4.out.1 hB5) (bstep HB4.out.2 hB5)
  have HL5:Hid (Nums .i64 W5 (.slice (some ⟨w4.heap.size,0,none⟩) 2 2) [(O:Int),(S:Int)]):=by show Nums _ _ _ _;rw [← hW5];exact nums_lit (k:=.i64) w4 [(O:Int),(S:Int)] 2 (0,0) rfl
  clear hW5 hB5 HB3 HB4
  refine (cG.out W5 _ HL5.out).mono ?_
  rintro e w6 ⟨rfl,rfl⟩
  have xr:=XR.out.up HB5.out.2
  have BF:=below_cell HB5.out.1 (w.heap.size+1+1) (by omega) (.slice none 0 0) (.slice none 0 0)
  have cf:=xr.set (.slice none 0 0) (.slice none 0 0)
  obtain ⟨r0,r1,r2,r3⟩:=xr
  obtain ⟨y0,y1,_,_⟩:=cf
  go_wp2
  exact bodyPost_ret (v:=.tuple #[.agg #[.slice none 0 0,.slice none 0 0],.int .i64 2]) (by simp [results,Tryz.results98,go_sem,y0,y1]) rfl ⟨_,rfl,TRes.none _ _,BF⟩
end Go.Proofs.YtlhpmjcdkpfjdaaGreatDoor.Wd
