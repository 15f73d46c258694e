/- The reference's Pool. -/
import Derived.Test.YtlhpmjcdkpfjdaaGreatDoorY13
set_option linter.unusedVariables false
set_option linter.unusedSimpArgs false
set_option maxHeartbeats 16000000
set_option maxRecDepth 16000
namespace Go.Proofs.YtlhpmjcdkpfjdaaGreatDoor.Wd
open Go.RowKit Fx
theorem cell_lowB {B:Nat} {W W':World} {b o:Nat} {v:Value} (h:W.cell? ⟨b,o,none⟩=some v) (hb:b < B) (hB:Below B W W'):W'.cell? ⟨b,o,none⟩=some v:=by
 unfold World.cell? at h ⊢
 rw [hB.block b hb]
 exact h
theorem frozen_lowB {B:Nat} {W W':World} {b o:Nat} (hb:b < B) (hB:Below B W W'):W'.frozen? ⟨b,o,none⟩=W.frozen? ⟨b,o,none⟩:=by
 unfold World.frozen?
 rw [hB.block b hb]
theorem Cel.lowB {B:Nat} {W W':World} {b:Nat} {s t:Value} (h:Cel W b s t) (hb:b < B) (hB:Below B W W'):Cel W' b s t:=
 ⟨cell_lowB h.1 hb hB,cell_lowB h.2.1 hb hB,by rw [frozen_lowB hb hB];exact h.2.2.1,by rw [frozen_lowB hb hB];exact h.2.2.2⟩
theorem OwnK.lowB {k:IntKind} {e:TypeId} {B B0:Nat} {W W':World} {v:Value} {l:List Int} (h:OwnK k e W B0 v l) (hv:∀ j,v.ownBlock=some j→j < B) (hB:Below B W W'):OwnK k e W' B0 v l:=by
 refine ⟨h.1,?_⟩
 rcases h.2 with h|⟨q,cap,cur,h1,h2,h3,h4⟩
 ·exact .inl h
 ·refine .inr ⟨q,cap,cur,h1,h2,?_,h4⟩
  rw [hB.block q (hv q (by rw [h1];rfl))]
  exact h3
theorem OwnK.blk {k:IntKind} {e:TypeId} {B0:Nat} {W:World} {v:Value} {l:List Int} (h:OwnK k e W B0 v l):∀ j,v.ownBlock=some j→j < W.heap.size:=fun j hj=>(World.ownsRow.lt h j hj).2
/-- What the reference's Pool reads and has made: the parameter's box, the answer's, the new tensor's, its shape. -/
def PlC (W:World) (ba br bt:Nat) (sa ta sd td:Value) (D:List Int) (B0:Nat):Prop:=Cel W ba sa ta∧Cel W br (.slice none 0 0) (.slice none 0 0)∧Cel W bt sd td∧OwnK .i64 3 W B0 sd D
theorem PlC.up {W W':World} {ba br bt:Nat} {sa ta sd td:Value} {D:List Int} {B0:Nat} (h:PlC W ba br bt sa ta sd td D B0) (hB:Below W.heap.size W W'):PlC W' ba br bt sa ta sd td D B0:=⟨h.1.up hB,h.2.1.up hB,h.2.2.1.up hB,h.2.2.2.up hB⟩
theorem PlC.stay {g:Nat} {W W':World} {ba br bt:Nat} {sa ta sd td:Value} {D:List Int} {B0:Nat} (h:PlC W ba br bt sa ta sd td D B0) (hs:Stay g W W') (h1:ba≠g) (h2:br≠g) (h3:bt≠g) (h4:Off g sd):PlC W' ba br bt sa ta sd td D B0:=⟨h.1.stay hs h1,h.2.1.stay hs h2,h.2.2.1.stay hs h3,h.2.2.2.stay hs h4⟩
theorem PlC.lowB {B:Nat} {W W':World} {ba br bt:Nat} {sa ta sd td:Value} {D:List Int} {B0:Nat} (h:PlC W ba br bt sa ta sd td D B0) (h1:ba < B) (h2:br < B) (h3:bt < B) (h4:∀ j,sd.ownBlock=some j→j < B) (hB:Below B W W'):PlC W' ba br bt sa ta sd td D B0:=⟨h.1.lowB h1 hB,h.2.1.lowB h2 hB,h.2.2.1.lowB h3 hB,h.2.2.2.lowB h4 hB⟩
theorem take_next (l:List Int) (k:Nat) (h:k < l.length):l.take k++[l.getD k 0]=l.take (k+1):=by
 rw [List.take_add_one,List.getD_eq_getElem?_getD,List.getElem?_eq_getElem h]
 rfl
theorem rpool_any (p p2:Option Addr) (n c n2 c2:Nat) (d x:List Int) (wd:Int) (hd:RI d) (hx:RI x) (w:World) (h1:Nums .i64 w (.slice p n c) d) (h2:Nums .i64 w (.slice p2 n2 c2) x):
  Calls Tryz.prog 99 #[.agg #[.slice p n c,.slice p2 n2 c2],.int .i64 wd] w fun e w'=>∃ v' u',e = .returned (.tuple #[v',u',.int .i64 (plE d x wd)])∧TRes w' w.heap.size v' (plD d x wd) (plV d x wd)∧OwnK .i64 3 w' w.heap.size u' (plP d x wd)∧Below w.heap.size w w':=by
 have cA:=fun W (hW:Below w.heap.size w W)=>ris_any _ _ d x hd W (h1.up hW) (h2.up hW)
 obtain ⟨_,_,_,e4,HD⟩:=h1.lst
 cases e4
 obtain ⟨_,_,_,e4,HX⟩:=h2.lst
 cases e4
 haveI:Nonempty World:=⟨w⟩
 by_cases hp:isP d x
 ·rw [decide_eq_true hp] at cA
  have hn4:n≤4:=by have:=hp.1.1;rw [ntl_len,HD.out.1] at this;exact this
  have hn4':(n:Int)≤4:=by omega
  by_cases hn:n=2
  ·subst hn
   obtain ⟨D0,D1,rfl,hx0,k0,k1,k2⟩:=two_sides hp HD.out.1
   have HDc:Hid (∃ q o,p=some ⟨q,o,none⟩∧w.cell? ⟨q,o,none⟩=some (.int .i64 (D0:Int))∧w.cell? ⟨q,o+1,none⟩=some (.int .i64 (D1:Int))):=by
    obtain ⟨q,o,rfl,hA0⟩:=HD.out.2 0 (by omega)
    obtain ⟨q',o',e',hA1⟩:=HD.out.2 1 (by omega)
    cases e'
    exact ⟨_,_,rfl,hA0,hA1⟩
   obtain ⟨qa,oa,rfl,ca0,ca1⟩:=HDc.out
   have zD:=le_side k2 k0 k1
   have zD':(D0:Int)≤4096∧(D1:Int)≤4096:=by omega
   by_cases hw:1≤wd∧wd≤(D1:Int)
   ·obtain ⟨wN,rfl⟩:∃ q:Nat,wd=q:=⟨wd.toNat,by omega⟩
    have hpl:isP [(D0:Int),(D1:Int)] x∧[(D0:Int),(D1:Int)].length=2∧plW [(D0:Int),(D1:Int)] (wN:Int):=⟨hp,rfl,hw⟩
    obtain ⟨q,eq⟩:∃ q,D1 / wN=q:=⟨_,rfl⟩
    have e1:plE [(D0:Int),(D1:Int)] x (wN:Int)=0∧plD [(D0:Int),(D1:Int)] x (wN:Int) = [(D0:Int),(q:Int)]∧plV [(D0:Int),(D1:Int)] x (wN:Int)=poolV D0 D1 q wN x∧plP [(D0:Int),(D1:Int)] x (wN:Int)=poolA D0 D1 q wN x:=by
     rw [← eq]
     refine ⟨?_,?_,?_,?_⟩
     ·unfold plE
      rw [if_pos hp,if_pos (show [(D0:Int),(D1:Int)].length=2 from rfl),if_pos hpl.2.2]
     ·unfold plD
      rw [if_pos hpl]
      rfl
     ·unfold plV
      rw [if_pos hpl]
      rfl
     ·unfold plP
      rw [if_pos hpl]
      rfl
    rw [e1.1,e1.2.1,e1.2.2.1,e1.2.2.2]
    have hw1:1≤wN∧wN≤D1:=by omega
    have hqw:q*wN≤D1:=by rw [← eq];exact Nat.div_mul_le_self D1 wN
    have hq1:1≤q:=by rw [← eq];exact (Nat.le_div_iff_mul_le (by omega)).2 (by omega)
    have hqD:q≤D1:=by rw [← eq];exact Nat.div_le_self D1 wN
    have eq':(D1:Int) / (wN:Int)=(q:Int):=by rw [← eq];rfl
    obtain ⟨NM,eNM⟩:∃ N,D0*q=N:=⟨_,rfl⟩
    have hNM:1≤NM∧NM≤4096:=⟨by rw [← eNM];exact Nat.mul_le_mul k0 hq1,by rw [← eNM];exact Nat.le_trans (Nat.mul_le_mul_left D0 hqD) k2⟩
    have hNM':1≤(NM:Int)∧(NM:Int)≤4096:=by omega
    have hg:goodN (ntl [(D0:Int),(q:Int)]):=good_two.2 ⟨k0,hq1,by rw [eNM];exact hNM.2⟩
    have cN:Hid (∀ W v,Nums .i64 W v [(D0:Int),(q:Int)]→Calls Tryz.prog 126 #[v,.int .i64 0] W fun e w'=>∃ v',e = .returned v'∧TNew w' W.heap.size v' [(D0:Int),(q:Int)] NM (List.replicate NM 0)∧Below W.heap.size W w'):=fun W v hv=>by
     have:=rnew_any v [(D0:Int),(q:Int)] (RI_two zD.1 (by omega)) hg 0 W hv
     rw [prod_two,eNM] at this
     exact this
    obtain ⟨V,eV⟩:∃ V,poolV D0 D1 q wN x=V:=⟨_,rfl⟩
    obtain ⟨PL,eP⟩:∃ P,poolA D0 D1 q wN x=P:=⟨_,rfl⟩
    rw [eV,eP]
    have HV:Hid (V.length=NM∧PL.length=NM∧(∀ i,i < NM→PL.getD i 0=((poolP D1 q wN x i:Nat):Int)∧V.getD i 0=x.getD (poolP D1 q wN x i) 0∧i / q*D1+i % q*wN+wN≤D0*D1∧poolP D1 q wN x i < D0*D1)):=by
     refine ⟨by rw [← eV,poolV_len,eNM],by rw [← eP,poolA_len,eNM],fun i hi=>?_⟩
     rw [← eNM] at hi
     exact ⟨by rw [← eP];exact poolA_at _ _ _ _ _ _ hi,by rw [← eV];exact poolV_at _ _ _ _ _ _ hi,pool_lt x hi hw1.1 hqw⟩
    have HV2:Hid (D0*q=NM):=eNM
    have HQW:Hid (q*wN≤D1):=hqw
    have HX0:Hid (RI x∧x.length=D0*D1∧n2=D0*D1∧D0*D1≤4096∧True∧Nums .i64 w (.slice p2 n2 c2) x):=⟨hx,hx0,by rw [← HX.out.1];exact hx0,k2,trivial,h2⟩
    have hw':1≤(wN:Int)∧(wN:Int)≤(D1:Int)∧(q:Int)≤4096∧1≤(q:Int):=by omega
    have hdw:decide ((wN:Int) < 1)=false:=decide_eq_false (by omega)
    have hdwn:decide (D1 < wN)=false:=decide_eq_false (by omega)
    have hdw2:decide ((D1:Int) < (wN:Int))=false:=decide_eq_false (by omega)
    clear e1 hpl eV eP eNM eq hp hx hx0 h1 h2 HD HDc k0 k1 k2 hqw hw hd hg
    go_enter Tryz.func99,Tryz.ntmps99
    go_wp2_with fail
    generalize hW0:World.alloc _ _=W0
    have HB0:=hidB (w:=w) hW0 (by go_grown)
    have XA:Hid (Cel W0 w.heap.size (.slice (some ⟨qa,oa,none⟩) 2 c) (.slice p2 n2 c2)):=celW hW0 (by simp [go_sem])
    have XR:Hid (Cel W0 (w.heap.size+1) (.slice none 0 0) (.slice none 0 0)):=celW hW0 (by simp [go_sem])
    clear hW0
    refine (cA W0 HB0.out).mono ?_
    rintro e w1 ⟨rfl,hB1⟩
    have HB1:=hid2 (bstep HB0.out hB1) hB1
    clear hB1 cA
    obtain ⟨a0,a1,_,_⟩:=XA.out.up HB1.out.2
    have a9:=cell_lt a0
    have ua0:=cell_low ca0 HB1.out.1
    have ua1:=cell_low ca1 HB1.out.1
    have ua9:=cell_lt ua0
    go_wp2_with fail
    go_quiet (fail)
    generalize hw5:World.drewN w1 nq=w5
    have HB5:Hid (Below w.heap.size w w5∧Below W0.heap.size W0 w5):=by rw [← hw5];exact ⟨below_drew HB1.out.1 nq,below_drew HB1.out.2 nq⟩
    clear hw5 a0 a1 a9 ua0 ua1 ua9
    go_wp2_with fail
    generalize hW7:World.alloc _ _=W7
    have hB7:Below w5.heap.size w5 W7:=by rw [← hW7];exact up_alloc w5 _
    have HB7:=hid2 (bstep HB5.out.1 hB7) (bstep HB5.out.2 hB7)
    have HL7:Hid (Nums .i64 W7 (.slice (some ⟨w5.heap.size,0,none⟩) 2 2) [(D0:Int),(q:Int)]):=by show Nums _ _ _ _;rw [← hW7];exact nums_lit (k:=.i64) w5 [(D0:Int),(q:Int)] 2 (0,0) rfl
    clear hW7 hB7 HB5
    refine (cN.out W7 _ HL7.out).mono ?_
    rintro e w8 ⟨v8,rfl,⟨s8,g,cg,rfl,hs8,ht8,hOff,hgB⟩,hB8⟩
    obtain ⟨p8,n8,c8,rfl,_⟩:=hs8.nums.lst
    clear HL7 cN
    go_wp2_with fail
    generalize hW9:World.alloc _ _=W9
    have B9:Below w8.heap.size w8 W9:=by rw [← hW9];exact up_alloc w8 _
    have XT:Cel W9 w8.heap.size (.slice p8 n8 c8) (.slice (some ⟨g,0,none⟩) NM cg):=by unfold Cel;rw [← hW9];simp [go_sem]
    have hU:=bstep hB8 B9
    have hz:=cell_lt XR.out.1
    have hgl:=ht8.size
    obtain ⟨B,hBB⟩:∃ B,B=W9.heap.size:=⟨_,rfl⟩
    have hTl:=cell_lt XT.1
    have H9:Hid (OwnK .i64 33 W9 g (.slice (some ⟨g,0,none⟩) NM cg) (rowF V (0*q))∧OwnK .i64 3 W9 B (.slice none 0 0) (PL.take (0*q))∧PlC W9 w.heap.size (w.heap.size+1) w8.heap.size (.slice (some ⟨qa,oa,none⟩) 2 c) (.slice p2 n2 c2) (.slice p8 n8 c8) (.slice (some ⟨g,0,none⟩) NM cg) [(D0:Int),(q:Int)] W7.heap.size∧Below w.heap.size w W9∧B≤W9.heap.size):=
     ⟨by rw [Nat.zero_mul,rowF_zero,HV.out.1];exact (ht8.up B9).base,by rw [Nat.zero_mul,List.take_zero];exact OwnK.nil _ _ _ _,⟨XA.out.up (bstep HB7.out.2 hU),XR.out.up (bstep HB7.out.2 hU),XT,hs8.up B9⟩,bstep HB7.out.1 hU,Nat.le_of_eq hBB⟩
    have Hg:Hid (g < B∧w.heap.size+1 < g∧g < w8.heap.size∧w8.heap.size < B∧w.heap.size+1 < W7.heap.size∧W7.heap.size≤g):=⟨by omega,by have:=HB7.out.2.size;omega,hgl,by omega,by have:=HB7.out.2.size;omega,hgB⟩
    have HG8:Hid (Off g (.slice p8 n8 c8)∧∀ j,(Value.slice p8 n8 c8).ownBlock=some j→j < B):=⟨hOff,by rw [hBB];exact (hs8.up B9).blk⟩
    obtain ⟨b8,hb8⟩:∃ b8,w8.heap.size=b8:=⟨_,rfl⟩
    rw [hb8] at H9 Hg ⊢
    clear hW9 B9 hz hgl hs8 ht8 hB8 hgB hOff HB7 hb8 hBB XT hU hTl
    go_wp2_with fail
    go_loopg [11,12] D0 (fun gg r i wr=>∃ (P:Nat),P≤D0∧gg=D0 - P∧i = .int .i64 (P:Int)∧Hid (OwnK .i64 33 wr g (.slice (some ⟨g,0,none⟩) NM cg) (rowF V (P*q))∧OwnK .i64 3 wr B r (PL.take (P*q))∧PlC wr w.heap.size (w.heap.size+1) b8 (.slice (some ⟨qa,oa,none⟩) 2 c) (.slice p2 n2 c2) (.slice p8 n8 c8) (.slice (some ⟨g,0,none⟩) NM cg) [(D0:Int),(q:Int)] W7.heap.size∧Below w.heap.size w wr∧B≤wr.heap.size))
    case atStart=>exact ⟨0,by omega,by omega,by first|rfl|simp,H9⟩
    case round=>
     obtain ⟨P,hP,hgP,rfl,HI⟩:=hrel
     obtain ⟨R1,hR1⟩:∃ R1:World,R1=wr:=⟨_,rfl⟩
     subst hR1
     by_cases hPn:P < D0
     ·have hP':(P:Int) < (D0:Int):=by omega
      go_wp2_with fail
      rw [show P*q=P*q+0 from rfl] at HI
      go_loopg [11,13] q (fun gg r i wr=>∃ (J:Nat),J≤q∧gg=q - J∧i = .int .i64 (J:Int)∧Hid (OwnK .i64 33 wr g (.slice (some ⟨g,0,none⟩) NM cg) (rowF V (P*q+J))∧OwnK .i64 3 wr B r (PL.take (P*q+J))∧PlC wr w.heap.size (w.heap.size+1) b8 (.slice (some ⟨qa,oa,none⟩) 2 c) (.slice p2 n2 c2) (.slice p8 n8 c8) (.slice (some ⟨g,0,none⟩) NM cg) [(D0:Int),(q:Int)] W7.heap.size∧Below w.heap.size w wr∧B≤wr.heap.size))
      case atStart=>exact ⟨0,by omega,by omega,by first|rfl|simp,HI⟩
      case round=>
       obtain ⟨J,hJ,hgJ,rfl,H⟩:=hrel
       obtain ⟨R2,hR2⟩:∃ R2:World,R2=wr:=⟨_,rfl⟩
       subst hR2
       by_cases hJn:J < q
       ·have hJ':(J:Int) < (q:Int):=by omega
        have hCq:P*D1+J*wN+wN≤D0*D1:=by
         have q1:(P+1)*D1≤D0*D1:=Nat.mul_le_mul_right D1 hPn
         have q2:(J+1)*wN≤q*wN:=Nat.mul_le_mul_right wN hJn
         have q3:=HQW.out
         rw [Nat.add_mul,Nat.one_mul] at q1 q2
         omega
        have hD4:=HX0.out.2.2.2.1
        obtain ⟨A,eA⟩:∃ a,P*D1=a:=⟨_,rfl⟩
        have eA':(P:Int)*(D1:Int)=(A:Int):=by rw [← eA];push_cast;rfl
        obtain ⟨Bq,eB⟩:∃ a,J*wN=a:=⟨_,rfl⟩
        have eB':(J:Int)*(wN:Int)=(Bq:Int):=by rw [← eB];push_cast;rfl
        obtain ⟨C,eC⟩:∃ a,A+Bq=a:=⟨_,rfl⟩
        have eC':(A:Int)+(Bq:Int)=(C:Int):=by omega
        have HC:Hid (P*D1+J*wN=C∧C+wN≤D0*D1):=⟨by omega,by omega⟩
        have bdA:(A:Int)≤4096∧(Bq:Int)≤4096∧(C:Int)≤4096:=by omega
        clear eA eB eC hCq
        go_wp2_with fail
        go_loopg [14,15] (wN - 1) (fun gg b i wr=>∃ (Y:Nat),1≤Y∧Y≤wN∧gg=wN - Y∧i = .int .i64 (Y:Int)∧b = .int .i64 ((bestK x C (Y - 1):Nat):Int)∧Hid (Below R2.heap.size R2 wr))
        case atStart=>exact ⟨1,by omega,by omega,by omega,by first|rfl|simp,by first|rfl|simp [bestK],Below.refl _ _⟩
        case round=>
         obtain ⟨Y,hY1,hY,hgY,rfl,rfl,hBY⟩:=hrel
         obtain ⟨R3,hR3⟩:∃ R3:World,R3=wr:=⟨_,rfl⟩
         subst hR3
         by_cases hYn:Y < wN
         ·have hY':(Y:Int) < (wN:Int):=by omega
          have hcb:=(bestK_in x C (Y - 1))
          obtain ⟨bst,ebst⟩:∃ b,bestK x C (Y - 1)=b:=⟨_,rfl⟩
          rw [ebst] at hcb
          have hD:C+Y < D0*D1:=by have:=HC.out.2;omega
          have hbD:bst < D0*D1:=by have:=HC.out.2;omega
          have hn2x:=HX0.out.2.2.1
          have hx4:=HX0.out.2.2.2.1
          obtain ⟨_,_,_,e4,HXl⟩:=HX0.out.2.2.2.2.2.lst
          cases e4
          obtain ⟨qx,ox,ex2,hcx⟩:=HXl.out.2 (C+Y) (by omega)
          obtain ⟨qx',ox',ex3,hcy⟩:=HXl.out.2 bst (by omega)
          subst ex2
          cases ex3
          have hBw:Below w.heap.size w R3:=bstep H.out.2.2.2.1 hBY.out
          have hcx1:=cell_low hcx hBw
          have hcy1:=cell_low hcy hBw
          have ltx:=cell_lt hcx1
          obtain ⟨a0,a1,_,_⟩:=H.out.2.2.1.1.up hBY.out
          have a9:=cell_lt a0
          obtain ⟨Xv,eX⟩:∃ X,x.getD (C+Y) 0=X:=⟨_,rfl⟩
          obtain ⟨Yv,eY⟩:∃ X,x.getD bst 0=X:=⟨_,rfl⟩
          rw [eX] at hcx1
          rw [eY] at hcy1
          obtain ⟨D,eD⟩:∃ a,C+Y=a:=⟨_,rfl⟩
          have eD':(C:Int)+(Y:Int)=(D:Int):=by omega
          rw [eD] at hcx1 hD eX
          have bd1:(D:Int) < (n2:Int)∧(bst:Int) < (n2:Int)∧(n2:Int)≤4096:=by omega
          have hYb:Y+1 - 1=(Y - 1)+1:=by omega
          rw [ebst]
          by_cases hlt:Yv < Xv
          ·have hN:Hid (bestK x C (Y+1 - 1)=D):=by
            show _=_
            rw [hYb,bestK,ebst,eY,show C+(Y - 1+1)=D by omega,eX,if_pos hlt]
           have hdl:decide (Yv < Xv)=true:=decide_eq_true hlt
           clear eX eY ebst eD hcx hcy HXl hcb hYb hBw hn2x hx4 hD hbD
           go_wp2_with fail
           go_quiet (fail)
           generalize hw8:World.drewN R3 nq=w8
           have hB8:Hid (Below R2.heap.size R2 w8):=by show Below _ _ _;rw [← hw8];exact below_drew hBY.out nq
           clear hw8 a0 a1 a9 hcx1 hcy1 ltx
           go_wp2
           go_roundg (wN - (Y+1))
           case measure=>omega
           case rel=>exact ⟨Y+1,by omega,by omega,rfl,by first|rfl|simp,by rw [hN.out],hB8⟩
          ·have hN:Hid (bestK x C (Y+1 - 1)=bst):=by
            show _=_
            rw [hYb,bestK,ebst,eY,show C+(Y - 1+1)=D by omega,eX,if_neg hlt]
           have hdl:decide (Yv < Xv)=false:=decide_eq_false hlt
           clear eX eY ebst eD hcx hcy HXl hcb hYb hBw hn2x hx4 hD hbD
           go_wp2_with fail
           go_quiet (fail)
           generalize hw8:World.drewN R3 nq=w8
           have hB8:Hid (Below R2.heap.size R2 w8):=by show Below _ _ _;rw [← hw8];exact below_drew hBY.out nq
           clear hw8 a0 a1 a9 hcx1 hcy1 ltx
           go_wp2
           go_roundg (wN - (Y+1))
           case measure=>omega
           case rel=>exact ⟨Y+1,by omega,by omega,rfl,by first|rfl|simp,by rw [hN.out],hB8⟩
         ·obtain rfl:Y=wN:=by omega
          have hlast:=HV.out.2.2 (P*q+J) (by rw [← HV2.out];exact pair_lt hPn hJn)
          have ePq:poolP D1 q Y x (P*q+J)=bestK x C (Y - 1):=by
           unfold poolP
           rw [pair_div _ _ _ hJn,pair_mod _ _ _ hJn,HC.out.1]
          rw [ePq] at hlast
          obtain ⟨bst,ebst⟩:∃ b,bestK x C (Y - 1)=b:=⟨_,rfl⟩
          rw [ebst] at hlast ⊢
          obtain ⟨eP,eV,_,hbl⟩:=hlast
          have hIJ:P*q+J < NM:=by rw [← HV2.out];exact pair_lt hPn hJn
          obtain ⟨A2,eA2⟩:∃ a,P*q=a:=⟨_,rfl⟩
          have eA2':(P:Int)*(q:Int)=(A2:Int):=by rw [← eA2];push_cast;rfl
          rw [eA2] at hIJ eP eV H
          obtain ⟨K,eK⟩:∃ a,A2+J=a:=⟨_,rfl⟩
          have eK':(A2:Int)+(J:Int)=(K:Int):=by omega
          rw [eK] at hIJ eP eV H
          have HNx:Hid (P*q+(J+1)=K+1):=by show _=_;rw [eA2];omega
          obtain ⟨Z,eZ⟩:∃ Z,x.getD bst 0=Z:=⟨_,rfl⟩
          rw [eZ] at eV
          have HZ:Hid (PL.getD K 0=(bst:Int)∧V.getD K 0=Z):=⟨eP,eV⟩
          have hn2x:=HX0.out.2.2.1
          have hx4:=HX0.out.2.2.2.1
          obtain ⟨_,_,_,e4,HXl⟩:=HX0.out.2.2.2.2.2.lst
          cases e4
          obtain ⟨qx,ox,ex2,hcx⟩:=HXl.out.2 bst (by omega)
          subst ex2
          have hBw:Below w.heap.size w R3:=bstep H.out.2.2.2.1 hBY.out
          have hcx1:=cell_low hcx hBw
          rw [eZ] at hcx1
          have ltx:=cell_lt hcx1
          have hctx:=H.out.2.2.1.up hBY.out
          obtain ⟨a0,a1,_,_⟩:=hctx.1
          obtain ⟨t0,t1,_,_⟩:=hctx.2.2.1
          have a9:=cell_lt a0
          have t9:=cell_lt t0
          have bd1:(bst:Int) < (n2:Int)∧(n2:Int)≤4096∧(K:Int) < (NM:Int)∧(A2:Int)≤4096:=by omega
          clear eZ eP eV ePq hcx HXl eA2 eK ebst hbl hn2x hx4
          go_wp2_with fail
          refine flow 13 120 (by kernel_rfl) rfl rfl (by kernel_rfl) ?_
          apply Exists.intro
          refine ⟨?_,?_⟩
          ·intro F hF
           have hFc:=hF.cell
           have hFf:=hF.frozen
           simp only [List.take_succ_cons,List.take_zero,List.eraseIdx_cons_succ,List.eraseIdx_cons_zero]
           repeat (go_big_quiet_step (fail))
           refine wpQuiet_nil ?_
           exact rfl
          ·intro W5 hW5
           simp only [List.drop_succ_cons,List.drop_zero]
           have hB5:=bstep hBY.out hW5
           have HR2:=H.out.1.up hB5
           have HR3:=H.out.2.1.up hB5
           have HR4:=H.out.2.2.1.up hB5
           have hs5:=hB5.size
           obtain ⟨hown2,hfz2⟩:=HR2.cell (by rw [rowF_len];exact HV.out.1) K hIJ
           have lt2:=cell_lt hown2
           have hG:=Hg.out
           have hSt:Stay g W5 (W5.setCell ⟨g,K,none⟩ (.int .i64 Z)):=(Stay.refl g W5).set K _
           have HO5:Hid (OwnK .i64 33 (W5.setCell ⟨g,K,none⟩ (.int .i64 Z)) g (.slice (some ⟨g,0,none⟩) NM cg) (rowF V (K+1))):=by
            have:=HR2.store (by rw [rowF_len];exact HV.out.1) K Z
            rw [← HZ.out.2,rowF_set V K (by rw [HV.out.1];exact hIJ)] at this
            rw [← HZ.out.2]
            exact this
           have HP5:Hid (OwnK .i64 3 ((W5.setCell ⟨g,K,none⟩ (.int .i64 Z)).alloc (.cells #[.int .i64 (bst:Int)] 3)) B u11 (PL.take K)):=((HR3.stay hSt (HR3.off hG.1)).up (up_alloc _ _))
           have HC5:Hid (PlC (W5.setCell ⟨g,K,none⟩ (.int .i64 Z)) w.heap.size (w.heap.size+1) b8 (.slice (some ⟨qa,oa,none⟩) 2 c) (.slice (some ⟨qx,ox,none⟩) n2 c2) (.slice p8 n8 c8) (.slice (some ⟨g,0,none⟩) NM cg) [(D0:Int),(q:Int)] W7.heap.size):=HR4.stay hSt (by omega) (by omega) (by omega) HG8.out.1
           have HB5:Hid (Below w.heap.size w (W5.setCell ⟨g,K,none⟩ (.int .i64 Z))∧B≤(W5.setCell ⟨g,K,none⟩ (.int .i64 Z)).heap.size):=⟨(bstep H.out.2.2.2.1 hB5).setCell (p:=⟨g,K,none⟩) (by show w.heap.size≤g;omega) _,by have:=H.out.2.2.2.2;simp;omega⟩
           have HN5:Hid (Nums .i64 ((W5.setCell ⟨g,K,none⟩ (.int .i64 Z)).alloc (.cells #[.int .i64 (bst:Int)] 3)) (.slice (some ⟨W5.heap.size,0,none⟩) 1 1) [(bst:Int)]):=by
            have e9:(W5.setCell ⟨g,K,none⟩ (.int .i64 Z)).heap.size=W5.heap.size:=by simp
            have:=nums_lit (k:=.i64) (e:=3) (W5.setCell ⟨g,K,none⟩ (.int .i64 Z)) [(bst:Int)] 1 (0,0) rfl
            rw [e9] at this
            exact this
           have HL5:Hid ((PL.take K).length+[(bst:Int)].length≤1073741824):=by show _≤_;rw [List.length_take,HV.out.2.1];simp;omega
           have HU5:Hid (Below B (W5.setCell ⟨g,K,none⟩ (.int .i64 Z)) ((W5.setCell ⟨g,K,none⟩ (.int .i64 Z)).alloc (.cells #[.int .i64 (bst:Int)] 3))):=(up_alloc _ _).mono HB5.out.2
           have HS5:Hid (B≤((W5.setCell ⟨g,K,none⟩ (.int .i64 Z)).alloc (.cells #[.int .i64 (bst:Int)] 3)).heap.size):=Nat.le_trans HB5.out.2 HU5.out.size
           clear hW5 hB5 HR2 HR3 HR4 hs5 a0 a1 a9 t0 t1 t9 hcx1 ltx hG hSt hBw hctx
           go_wp2_with (at_builtin;refine wpList_appendK numT (by decide) rfl (.tmp 114) (.tmp 116) rfl B _ _ rfl HP5.out _ [(bst:Int)] rfl HN5.out HL5.out HS5.out _ HU5.out ?_;intro v6 w6 H6 B6)
           have hG:=Hg.out
           have HI6:Hid (OwnK .i64 33 w6 g (.slice (some ⟨g,0,none⟩) NM cg) (rowF V (P*q+(J+1)))∧OwnK .i64 3 w6 B v6 (PL.take (P*q+(J+1)))∧PlC w6 w.heap.size (w.heap.size+1) b8 (.slice (some ⟨qa,oa,none⟩) 2 c) (.slice (some ⟨qx,ox,none⟩) n2 c2) (.slice p8 n8 c8) (.slice (some ⟨g,0,none⟩) NM cg) [(D0:Int),(q:Int)] W7.heap.size∧Below w.heap.size w w6∧B≤w6.heap.size):=by
            refine ⟨?_,?_,HC5.out.lowB (by omega) (by omega) (by omega) HG8.out.2 B6,HB5.out.1.trans (B6.mono (by omega)),Nat.le_trans HB5.out.2 B6.size⟩
            ·rw [HNx.out]
             exact HO5.out.lowB (fun j hj=>by cases hj;exact hG.1) B6
            ·rw [HNx.out,← take_next PL K (by rw [HV.out.2.1];exact hIJ),HZ.out.1]
             exact H6.out
           clear HO5 HP5 HC5 HB5 HN5 HL5 HU5 HS5 H6 B6 hG
           go_wp2
           go_roundg (q - (J+1))
           case measure=>omega
           case rel=>exact ⟨J+1,by omega,rfl,by first|rfl|simp,HI6⟩
       ·obtain rfl:q=J:=by omega
        have H7:=H
        rw [show P*q+q=(P+1)*q by rw [Nat.add_mul,Nat.one_mul]] at H7
        clear H
        go_wp2
        go_roundg (D0 - (P+1))
        case measure=>omega
        case rel=>exact ⟨P+1,by omega,rfl,by first|rfl|simp,H7⟩
     ·obtain rfl:D0=P:=by omega
      have f1:=HI.out.1
      have f2:=HI.out.2.1
      rw [HV2.out] at f1 f2
      have g1:rowF V NM=V:=by have:=rowF_full V;rw [HV.out.1] at this;exact this
      have g2:PL.take NM=PL:=List.take_of_length_le (Nat.le_of_eq HV.out.2.1)
      rw [g1] at f1
      rw [g2] at f2
      have hG:=Hg.out
      obtain ⟨_,xr,xT,o1⟩:=HI.out.2.2.1
      have HF:Hid (TRes (set2 R1 (w.heap.size+1) (.slice p8 n8 c8) (.slice (some ⟨g,0,none⟩) NM cg)) w.heap.size (.agg #[.slice p8 n8 c8,.slice (some ⟨g,0,none⟩) NM cg]) [(D0:Int),(q:Int)] V∧OwnK .i64 3 (set2 R1 (w.heap.size+1) (.slice p8 n8 c8) (.slice (some ⟨g,0,none⟩) NM cg)) w.heap.size u11 PL∧Below w.heap.size w (set2 R1 (w.heap.size+1) (.slice p8 n8 c8) (.slice (some ⟨g,0,none⟩) NM cg))):=
       ⟨(TRes.set (B:=W7.heap.size) o1 (f1.low hG.2.2.2.2.2) hG.2.2.2.2.1).low (by omega),(f2.stay (Stay.set2 _ _ _) (f2.off (by omega))).low (by omega),below_cell HI.out.2.2.2.1 _ (by omega) _ _⟩
      have cf:=xr.set (.slice p8 n8 c8) (.slice (some ⟨g,0,none⟩) NM cg)
      obtain ⟨t0,t1,_,_⟩:=xT
      obtain ⟨r0,r1,r2,r3⟩:=xr
      obtain ⟨y0,y1,_,_⟩:=cf
      have t9:=cell_lt t0
      have r9:=cell_lt r0
      clear f1 f2 g1 g2 o1 hG HI
      go_wp2
      exact bodyPost_ret (v:=.tuple #[.agg #[.slice p8 n8 c8,.slice (some ⟨g,0,none⟩) NM cg],u11,.int .i64 0]) (by simp [results,Tryz.results99,go_sem,y0,y1]) rfl ⟨_,_,rfl,HF.out⟩
   ·obtain ⟨e1,e2,e3⟩:=pl_none (d:=[(D0:Int),(D1:Int)]) (x:=x) (wd:=wd) (fun h=>hw h.2.2)
    have e0:plE [(D0:Int),(D1:Int)] x wd=1:=by
     unfold plE
     rw [if_pos hp,if_pos (show [(D0:Int),(D1:Int)].length=2 from rfl),if_neg (show ¬ plW [(D0:Int),(D1:Int)] wd from hw)]
    rw [e0,e1,e2,e3]
    clear e0 e1 e2 e3 hp hx hx0 h1 h2 HD HX HDc hd
    by_cases hw1:wd < 1
    ·have hw2:decide (wd < 1)=true:=decide_eq_true hw1
     go_enter Tryz.func99,Tryz.ntmps99
     go_wp2_with fail
     generalize hW0:World.alloc _ _=W0
     have HB0:=hidB (w:=w) hW0 (by go_grown)
     have XA:Hid (Cel W0 w.heap.size (.slice (some ⟨qa,oa,none⟩) 2 c) (.slice p2 n2 c2)):=celW hW0 (by simp [go_sem])
     have XR:Hid (Cel W0 (w.heap.size+1) (.slice none 0 0) (.slice none 0 0)):=celW hW0 (by simp [go_sem])
     clear hW0
     refine (cA W0 HB0.out).mono ?_
     rintro e w1 ⟨rfl,hB1⟩
     have HB1:=hid2 (bstep HB0.out hB1) hB1
     clear hB1 cA
     obtain ⟨a0,a1,_,_⟩:=XA.out.up HB1.out.2
     have a9:=cell_lt a0
     have ua0:=cell_low ca0 HB1.out.1
     have ua1:=cell_low ca1 HB1.out.1
     have ua9:=cell_lt ua0
     have xr:=XR.out.up HB1.out.2
     have BF:=below_cell HB1.out.1 (w.heap.size+1) (by omega) (.slice none 0 0) (.slice none 0 0)
     have cf:=xr.set (.slice none 0 0) (.slice none 0 0)
     obtain ⟨r0,r1,r2,r3⟩:=xr
     obtain ⟨y0,y1,_,_⟩:=cf
     go_wp2
     exact bodyPost_ret (v:=.tuple #[.agg #[.slice none 0 0,.slice none 0 0],.slice none 0 0,.int .i64 1]) (by simp [results,Tryz.results99,go_sem,y0,y1]) rfl ⟨_,_,rfl,TRes.none _ _,OwnK.nil _ _ _ _,BF⟩
    ·have hw2:decide (wd < 1)=false:=decide_eq_false hw1
     have hw3:decide ((D1:Int) < wd)=true:=decide_eq_true (by omega)
     go_enter Tryz.func99,Tryz.ntmps99
     go_wp2_with fail
     generalize hW0:World.alloc _ _=W0
     have HB0:=hidB (w:=w) hW0 (by go_grown)
     have XA:Hid (Cel W0 w.heap.size (.slice (some ⟨qa,oa,none⟩) 2 c) (.slice p2 n2 c2)):=celW hW0 (by simp [go_sem])
     have XR:Hid (Cel W0 (w.heap.size+1) (.slice none 0 0) (.slice none 0 0)):=celW hW0 (by simp [go_sem])
     clear hW0
     refine (cA W0 HB0.out).mono ?_
     rintro e w1 ⟨rfl,hB1⟩
     have HB1:=hid2 (bstep HB0.out hB1) hB1
     clear hB1 cA
     obtain ⟨a0,a1,_,_⟩:=XA.out.up HB1.out.2
     have a9:=cell_lt a0
     have ua0:=cell_low ca0 HB1.out.1
     have ua1:=cell_low ca1 HB1.out.1
     have ua9:=cell_lt ua0
     have xr:=XR.out.up HB1.out.2
     have BF:=below_cell HB1.out.1 (w.heap.size+1) (by omega) (.slice none 0 0) (.slice none 0 0)
     have cf:=xr.set (.slice none 0 0) (.slice none 0 0)
     obtain ⟨r0,r1,r2,r3⟩:=xr
     obtain ⟨y0,y1,_,_⟩:=cf
     go_wp2
     exact bodyPost_ret (v:=.tuple #[.agg #[.slice none 0 0,.slice none 0 0],.slice none 0 0,.int .i64 1]) (by simp [results,Tryz.results99,go_sem,y0,y1]) rfl ⟨_,_,rfl,TRes.none _ _,OwnK.nil _ _ _ _,BF⟩
  ·obtain ⟨e1,e2,e3⟩:=pl_none (d:=d) (x:=x) (wd:=wd) (fun h=>hn (by rw [← HD.out.1];exact h.2.1))
   have e0:plE d x wd=4:=by
    unfold plE
    rw [if_pos hp,if_neg (by rw [HD.out.1];exact hn)]
   rw [e0,e1,e2,e3]
   have hne:((n:Int) != 2)=true:=by simp;omega
   have hne':¬ ((n:Int)=2):=by omega
   clear e0 e1 e2 e3 hp hx h1 h2 HD HX hd hn
   go_enter Tryz.func99,Tryz.ntmps99
   go_wp2_with fail
   generalize hW0:World.alloc _ _=W0
   have HB0:=hidB (w:=w) hW0 (by go_grown)
   have XA:Hid (Cel W0 w.heap.size (.slice p n c) (.slice p2 n2 c2)):=celW hW0 (by simp [go_sem])
   have XR:Hid (Cel W0 (w.heap.size+1) (.slice none 0 0) (.slice none 0 0)):=celW hW0 (by simp [go_sem])
   clear hW0
   refine (cA W0 HB0.out).mono ?_
   rintro e w1 ⟨rfl,hB1⟩
   have HB1:=hid2 (bstep HB0.out hB1) hB1
   clear hB1 cA
   obtain ⟨a0,a1,_,_⟩:=XA.out.up HB1.out.2
   have a9:=cell_lt a0
   have xr:=XR.out.up HB1.out.2
   have BF:=below_cell HB1.out.1 (w.heap.size+1) (by omega) (.slice none 0 0) (.slice none 0 0)
   have cf:=xr.set (.slice none 0 0) (.slice none 0 0)
   obtain ⟨r0,r1,r2,r3⟩:=xr
   obtain ⟨y0,y1,_,_⟩:=cf
   go_wp2
   exact bodyPost_ret (v:=.tuple #[.agg #[.slice none 0 0,.slice none 0 0],.slice none 0 0,.int .i64 4]) (by simp [results,Tryz.results99,go_sem,y0,y1]) rfl ⟨_,_,rfl,TRes.none _ _,OwnK.nil _ _ _ _,BF⟩
 ·rw [decide_eq_false hp] at cA
  obtain ⟨e1,e2,e3⟩:=pl_none (d:=d) (x:=x) (wd:=wd) (fun h=>hp h.1)
  rw [show plE d x wd=1 from if_neg hp,e1,e2,e3]
  clear e1 e2 e3 hp hx h1 h2 HD HX hd
  go_enter Tryz.func99,Tryz.ntmps99
  go_wp2_with fail
  generalize hW0:World.alloc _ _=W0
  have HB0:=hidB (w:=w) hW0 (by go_grown)
  have XA:Hid (Cel W0 w.heap.size (.slice p n c) (.slice p2 n2 c2)):=celW hW0 (by simp [go_sem])
  have XR:Hid (Cel W0 (w.heap.size+1) (.slice none 0 0) (.slice none 0 0)):=celW hW0 (by simp [go_sem])
  clear hW0
  refine (cA W0 HB0.out).mono ?_
  rintro e w1 ⟨rfl,hB1⟩
  have HB1:=hid2 (bstep HB0.out hB1) hB1
  clear hB1 cA
  obtain ⟨a0,a1,_,_⟩:=XA.out.up HB1.out.2
  have a9:=cell_lt a0
  have xr:=XR.out.up HB1.out.2
  have BF:=below_cell HB1.out.1 (w.heap.size+1) (by omega) (.slice none 0 0) (.slice none 0 0)
  have cf:=xr.set (.slice none 0 0) (.slice none 0 0)
  obtain ⟨r0,r1,r2,r3⟩:=xr
  obtain ⟨y0,y1,_,_⟩:=cf
  go_wp2
  exact bodyPost_ret (v:=.tuple #[.agg #[.slice none 0 0,.slice none 0 0],.slice none 0 0,.int .i64 1]) (by simp [results,Tryz.results99,go_sem,y0,y1]) rfl ⟨_,_,rfl,TRes.none _ _,OwnK.nil _ _ _ _,BF⟩
end Go.Proofs.YtlhpmjcdkpfjdaaGreatDoor.Wd
