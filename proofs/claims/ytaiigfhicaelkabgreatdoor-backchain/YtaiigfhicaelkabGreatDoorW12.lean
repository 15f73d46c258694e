/- The greatest of so many: what conv.firstGreatest and conv.Pool hand back. -/
import Derived.Test.YtaiigfhicaelkabGreatDoorW02
import Derived.Test.YtaiigfhicaelkabGreatDoorW09
import Derived.Test.YtaiigfhicaelkabGreatDoorW05
import Derived.Test.YtaiigfhicaelkabGreatDoorW11
set_option linter.unusedVariables false
set_option linter.unusedSimpArgs false
set_option maxHeartbeats 16000000
set_option maxRecDepth 16000
namespace Go.Proofs.YtaiigfhicaelkabGreatDoor.Wd
open Go.RowKit Fx
theorem best_cut (v:List Int) (b wd:Nat) (hb:b+wd≤v.length):∀ m,m < wd→b+bestK ((v.drop b).take wd) 0 m=bestK v b m
 | 0,_=>rfl
 | m+1,hm=>by
  have ih:=best_cut v b wd hb m (by omega)
  have hin:=(bestK_in ((v.drop b).take wd) 0 m).2
  have e:∀ j,j < wd→((v.drop b).take wd).getD j 0=v.getD (b+j) 0:=fun j hj=>by
   rw [List.getD_eq_getElem?_getD,List.getD_eq_getElem?_getD,List.getElem?_take_of_lt hj,List.getElem?_drop]
  rw [bestK,bestK,e _ (by omega),e _ (by omega),ih,show b+(0+(m+1))=b+(m+1) by omega]
  split <;> omega
theorem first_any (p:Option Addr) (n c:Nat) (l:List Int) (hl:RI l) (hn:1≤n) (hn2:n≤4096) (w:World) (hv:Nums .i64 w (.slice p n c) l):
  Calls Tryz.prog 104 #[.slice p n c] w fun e w'=>e = .returned (.int .i64 ((bestK l 0 (n - 1):Nat):Int))∧w'=w:=by
 obtain ⟨_,_,_,e4,HX⟩:=hv.lst
 cases e4
 have hn1:(n:Int)≤4096:=by omega
 have HL:Hid (RI l):=hl
 clear hv hl
 haveI:Nonempty World:=⟨w⟩
 go_enter Tryz.func104,Tryz.ntmps104
 go_wp2_with fail
 go_loopg [3,8] n (fun gg r i wr=>∃ (k:Nat),k≤n∧gg=n - k∧i = .int .i64 (k:Int)∧r = .int .i64 ((bestK l 0 (k - 1):Nat):Int)∧Hid (wr=w))
 case atStart=>exact ⟨0,by omega,by omega,by first|rfl|simp,rfl,rfl⟩
 case round=>
  obtain ⟨k,hk,hgk,rfl,rfl,hW⟩:=hrel
  obtain rfl:=hW.out
  by_cases hkn:k < n
  ·have hk':(k:Int) < (n:Int):=by omega
   have hin:=(bestK_in l 0 (k - 1)).2
   obtain ⟨b,eb⟩:∃ b,bestK l 0 (k - 1)=b:=⟨_,rfl⟩
   rw [eb] at hin
   have hbn:b < n:=by omega
   have hb':(b:Int) < (n:Int):=by omega
   obtain ⟨q,o,rfl,d1⟩:=HX.out.2 k hkn
   obtain ⟨q',o',e',d2⟩:=HX.out.2 b hbn
   cases e'
   have l1:=cell_lt d1
   obtain ⟨X,eX⟩:∃ X,l.getD k 0=X:=⟨_,rfl⟩
   obtain ⟨Y,eY⟩:∃ Y,l.getD b 0=Y:=⟨_,rfl⟩
   rw [eX] at d1
   rw [eY] at d2
   rw [eb]
   by_cases hlt:Y < X
   ·have hN:Hid (bestK l 0 (k+1 - 1)=k):=by
     show _=_
     cases k with
     | zero=>
      obtain rfl:b=0:=by omega
      rw [eX] at eY
      omega
     | succ m=>
      rw [show m+1+1 - 1=m+1 by omega,bestK,show bestK l 0 m=b from eb,eY,show 0+(m+1)=m+1 by omega,eX,if_pos hlt]
    clear eX eY eb
    go_wp2
    go_roundg (n - (k+1))
    case measure=>omega
    case rel=>exact ⟨k+1,by omega,rfl,by first|rfl|simp,by rw [hN.out],rfl⟩
   ·have hN:Hid (bestK l 0 (k+1 - 1)=b):=by
     show _=_
     cases k with
     | zero=>omega
     | succ m=>
      rw [show m+1+1 - 1=m+1 by omega,bestK,show bestK l 0 m=b from eb,eY,show 0+(m+1)=m+1 by omega,eX,if_neg hlt]
    have hlt':X≤Y:=by omega
    clear eX eY eb
    go_wp2
    go_roundg (n - (k+1))
    case measure=>omega
    case rel=>exact ⟨k+1,by omega,rfl,by first|rfl|simp,by rw [hN.out],rfl⟩
  ·obtain rfl:k=n:=by omega
   have hk':¬ (k:Int) < (k:Int):=by omega
   go_wp2
   go_ret
   exact ⟨rfl,rfl⟩
/-- Pool: what the document says. -/
abbrev plW (d:List Int) (wd:Int):Prop:=1≤wd∧wd≤d.getD 1 0
def plE (d x:List Int) (wd:Int):Int:=if isP d x then if d.length=2 then if plW d wd then 0 else 1 else 4 else 1
def plD (d x:List Int) (wd:Int):List Int:=if isP d x∧d.length=2∧plW d wd then [d.getD 0 0,(((d.getD 1 0).toNat / wd.toNat:Nat):Int)] else []
def plV (d x:List Int) (wd:Int):List Int:=if isP d x∧d.length=2∧plW d wd then poolV (d.getD 0 0).toNat (d.getD 1 0).toNat ((d.getD 1 0).toNat / wd.toNat) wd.toNat x else []
def plP (d x:List Int) (wd:Int):List Int:=if isP d x∧d.length=2∧plW d wd then poolA (d.getD 0 0).toNat (d.getD 1 0).toNat ((d.getD 1 0).toNat / wd.toNat) wd.toNat x else []
theorem pl_none {d x:List Int} {wd:Int} (h:¬ (isP d x∧d.length=2∧plW d wd)):plD d x wd = []∧plV d x wd = []∧plP d x wd = []:=⟨if_neg h,if_neg h,if_neg h⟩
theorem poolA_at (c l n wide:Nat) (v:List Int) (q:Nat) (h:q < c*n):(poolA c l n wide v).getD q 0=((poolP l n wide v q:Nat):Int):=getD_map_range _ _ _ _ h
theorem poolV_at (c l n wide:Nat) (v:List Int) (q:Nat) (h:q < c*n):(poolV c l n wide v).getD q 0=v.getD (poolP l n wide v q) 0:=getD_map_range _ _ _ _ h
theorem pool_any (p p2:Option Addr) (n c n2 c2:Nat) (d x:List Int) (wd:Int) (hd:RI d) (hx:RI x) (hc2:n2≤c2) (w:World) (h1:Nums .i64 w (.slice p n c) d) (h2:Nums .i64 w (.slice p2 n2 c2) x):
  Calls Tryz.prog 54 #[.agg #[.slice p n c,.slice p2 n2 c2],.int .i64 wd] w fun e w'=>∃ v' u',e = .returned (.tuple #[v',u',.int .i64 (plE d x wd)])∧TRes w' w.heap.size v' (plD d x wd) (plV d x wd)∧OwnK .i64 3 w' w.heap.size u' (plP d x wd)∧Below w.heap.size w w':=by
 have cA:=fun W (hW:Below w.heap.size w W)=>tgood_any _ _ d x hd W (h1.up hW) (h2.up hW)
 obtain ⟨_,_,_,e4,HD⟩:=h1.lst
 cases e4
 obtain ⟨_,_,_,e4,HX⟩:=h2.lst
 cases e4
 haveI:Nonempty World:=⟨w⟩
 by_cases hp:isP d x
 ·rw [decide_eq_true hp] at cA
  have hn4:n≤4:=by have:=hp.1.1;rw [ntl_len,HD.out.1] at this;exact this
  have hn4':(n:Int)≤4:=by omega
  by_cases hn:n=2
  ·subst hn
   obtain ⟨D0,D1,rfl,hx0,k0,k1,k2⟩:=two_sides hp HD.out.1
   have HDc:Hid (∃ q o,p=some ⟨q,o,none⟩∧w.cell? ⟨q,o,none⟩=some (.int .i64 (D0:Int))∧w.cell? ⟨q,o+1,none⟩=some (.int .i64 (D1:Int))):=by
    obtain ⟨q,o,rfl,hA0⟩:=HD.out.2 0 (by omega)
    obtain ⟨q',o',e',hA1⟩:=HD.out.2 1 (by omega)
    cases e'
    exact ⟨_,_,rfl,hA0,hA1⟩
   obtain ⟨qa,oa,rfl,ca0,ca1⟩:=HDc.out
   have zD:=le_side k2 k0 k1
   have zD':(D0:Int)≤4096∧(D1:Int)≤4096:=by omega
   by_cases hw:1≤wd∧wd≤(D1:Int)
   ·obtain ⟨wN,rfl⟩:∃ q:Nat,wd=q:=⟨wd.toNat,by omega⟩
    have hpl:isP [(D0:Int),(D1:Int)] x∧[(D0:Int),(D1:Int)].length=2∧plW [(D0:Int),(D1:Int)] (wN:Int):=⟨hp,rfl,hw⟩
    obtain ⟨q,eq⟩:∃ q,D1 / wN=q:=⟨_,rfl⟩
    have e1:plE [(D0:Int),(D1:Int)] x (wN:Int)=0∧plD [(D0:Int),(D1:Int)] x (wN:Int) = [(D0:Int),(q:Int)]∧plV [(D0:Int),(D1:Int)] x (wN:Int)=poolV D0 D1 q wN x∧plP [(D0:Int),(D1:Int)] x (wN:Int)=poolA D0 D1 q wN x:=by
     rw [← eq]
     refine ⟨?_,?_,?_,?_⟩
     ·unfold plE
      rw [if_pos hp,if_pos (show [(D0:Int),(D1:Int)].length=2 from rfl),if_pos hpl.2.2]
     ·unfold plD
      rw [if_pos hpl]
      rfl
     ·unfold plV
      rw [if_pos hpl]
      rfl
     ·unfold plP
      rw [if_pos hpl]
      rfl
    rw [e1.1,e1.2.1,e1.2.2.1,e1.2.2.2]
    have hw1:1≤wN∧wN≤D1:=by omega
    have hqw:q*wN≤D1:=by rw [← eq];exact Nat.div_mul_le_self D1 wN
    have hq1:1≤q:=by rw [← eq];exact (Nat.le_div_iff_mul_le (by omega)).2 (by omega)
    have hqD:q≤D1:=by rw [← eq];exact Nat.div_le_self D1 wN
    have eq':(D1:Int) / (wN:Int)=(q:Int):=by rw [← eq];rfl
    obtain ⟨NM,eNM⟩:∃ N,D0*q=N:=⟨_,rfl⟩
    have eNM':(D0:Int)*(q:Int)=(NM:Int):=by rw [← eNM];push_cast;rfl
    have hNM:1≤NM∧NM≤4096:=⟨by rw [← eNM];exact Nat.mul_le_mul k0 hq1,by rw [← eNM];exact Nat.le_trans (Nat.mul_le_mul_left D0 hqD) k2⟩
    have hNM':1≤(NM:Int)∧(NM:Int)≤4096:=by omega
    obtain ⟨V,eV⟩:∃ V,poolV D0 D1 q wN x=V:=⟨_,rfl⟩
    obtain ⟨P,eP⟩:∃ P,poolA D0 D1 q wN x=P:=⟨_,rfl⟩
    rw [eV,eP]
    have HV:Hid (V.length=NM∧P.length=NM∧(∀ i,i < NM→P.getD i 0=((poolP D1 q wN x i:Nat):Int)∧V.getD i 0=x.getD (poolP D1 q wN x i) 0∧i / q*D1+i % q*wN+wN≤D0*D1∧poolP D1 q wN x i < D0*D1)):=by
     refine ⟨by rw [← eV,poolV_len,eNM],by rw [← eP,poolA_len,eNM],fun i hi=>?_⟩
     rw [← eNM] at hi
     exact ⟨by rw [← eP];exact poolA_at _ _ _ _ _ _ hi,by rw [← eV];exact poolV_at _ _ _ _ _ _ hi,pool_lt x hi hw1.1 hqw⟩
    have HX0:Hid (RI x∧x.length=D0*D1∧n2=D0*D1∧D0*D1≤4096∧n2≤c2∧Nums .i64 w (.slice p2 n2 c2) x):=⟨hx,hx0,by rw [← HX.out.1];exact hx0,k2,hc2,h2⟩
    have hw':1≤(wN:Int)∧(wN:Int)≤(D1:Int)∧(q:Int)≤4096∧1≤(q:Int):=by omega
    clear e1 hpl eV eP eNM eq hp hx hx0 h1 h2 HD HDc k0 k1 k2 hqw hw hd
    go_enter Tryz.func54,Tryz.ntmps54
    go_wp2_with fail
    generalize hW0:World.alloc _ _=W0
    have HB0:=hidB (w:=w) hW0 (by go_grown)
    have XA:Hid (Cel W0 w.heap.size (.slice (some ⟨qa,oa,none⟩) 2 c) (.slice p2 n2 c2)):=celW hW0 (by simp [go_sem])
    have XR:Hid (Cel W0 (w.heap.size+1) (.slice none 0 0) (.slice none 0 0)):=celW hW0 (by simp [go_sem])
    clear hW0
    refine (cA W0 HB0.out).mono ?_
    rintro e w1 ⟨rfl,hB1⟩
    have HB1:=hid2 (bstep HB0.out hB1) hB1
    clear hB1 cA
    obtain ⟨a0,a1,_,_⟩:=XA.out.up HB1.out.2
    have a9:=cell_lt a0
    have ua0:=cell_low ca0 HB1.out.1
    have ua1:=cell_low ca1 HB1.out.1
    have ua9:=cell_lt ua0
    go_wp2_with fail
    go_quiet (fail)
    generalize hw5:World.drewN w1 nq=w5
    have HB5:Hid (Below w.heap.size w w5∧Below W0.heap.size W0 w5):=by rw [← hw5];exact ⟨below_drew HB1.out.1 nq,below_drew HB1.out.2 nq⟩
    clear hw5 a0 a1 a9 ua0 ua1 ua9
    go_wp2_with (first
     |(at_make;refine wpList_makeK fixT (by decide) w5 rfl (.tmp 44) (.tmp 44) rfl .i64 .i64 NM NM NM rfl rfl rfl rfl (by omega) w.heap.size w HB5.out.1.size HB5.out.1 ?_;intro w6 HO6 B6 B6')
     |(at_make;refine wpList_makeK numT (by decide) w6 rfl (.tmp 48) (.tmp 48) rfl .i64 .i64 NM NM NM rfl rfl rfl rfl (by omega) w.heap.size w B6'.size B6' ?_;intro w7 HO7 B7 B7'))
    have HB7:Hid (Below w.heap.size w w7∧Below W0.heap.size W0 w7):=⟨B7',bstep HB5.out.2 (bstep B6 B7)⟩
    have HG:Hid (w5.heap.size < w6.heap.size∧W0.heap.size≤w5.heap.size∧w.heap.size+1 < W0.heap.size):=⟨HO6.out.size,HB5.out.2.size,cell_lt XR.out.1⟩
    have HV7:Hid (OwnK .i64 22 w7 w5.heap.size (.slice (some ⟨w5.heap.size,0,none⟩) NM NM) (rowF V 0)∧OwnK .i64 3 w7 w6.heap.size (.slice (some ⟨w6.heap.size,0,none⟩) NM NM) (rowF P 0)):=⟨by rw [rowF_zero,HV.out.1];exact HO6.out.up B7,by rw [rowF_zero,HV.out.2.1];exact HO7.out⟩
    obtain ⟨gp,egp⟩:∃ g,w5.heap.size=g:=⟨_,rfl⟩
    obtain ⟨gl,egl⟩:∃ g,w6.heap.size=g:=⟨_,rfl⟩
    rw [egp,egl] at HV7 HG ⊢
    clear HO6 HO7 B6 B6' B7 B7' egp egl
    go_wp2_with fail
    go_loopg [52] NM (fun gg i wr=>∃ (k:Nat),k≤NM∧gg=NM - k∧i = .int .i64 (k:Int)∧Hid (OwnK .i64 22 wr gp (.slice (some ⟨gp,0,none⟩) NM NM) (rowF V k)∧OwnK .i64 3 wr gl (.slice (some ⟨gl,0,none⟩) NM NM) (rowF P k))∧Hid (Below w.heap.size w wr∧Below W0.heap.size W0 wr))
    case atStart=>exact ⟨0,by omega,by omega,by first|rfl|simp,HV7,HB7⟩
    case round=>
     obtain ⟨k,hk,hgk,rfl,HO,HBk⟩:=hrel
     obtain ⟨R1,hR1⟩:∃ R1:World,R1=wr:=⟨_,rfl⟩
     subst hR1
     by_cases hkn:k < NM
     ·have hk':(k:Int) < (NM:Int):=by omega
      obtain ⟨eP,eV,hroom,hplt⟩:=HV.out.2.2 k hkn
      have hdk:k / q≤k:=Nat.div_le_self k q
      have hmk:k % q≤k:=Nat.mod_le k q
      have hx4:=HX0.out.2.2.2.1
      have ebst:=best_cut x (k / q*D1+k % q*wN) wN (by rw [HX0.out.2.1];exact hroom) (wN - 1) (by omega)
      have eP2:poolP D1 q wN x k=bestK x (k / q*D1+k % q*wN) (wN - 1):=rfl
      obtain ⟨kd,ekd⟩:∃ a,k / q=a:=⟨_,rfl⟩
      obtain ⟨km,ekm⟩:∃ a,k % q=a:=⟨_,rfl⟩
      have ekd':(k:Int) / (q:Int)=(kd:Int):=by rw [← ekd];rfl
      have ekm':(k:Int) % (q:Int)=(km:Int):=by rw [← ekm];rfl
      rw [ekd,ekm] at hroom ebst eP2
      rw [ekd] at hdk
      rw [ekm] at hmk
      obtain ⟨A,eA⟩:∃ a,kd*D1=a:=⟨_,rfl⟩
      obtain ⟨B,eB⟩:∃ a,km*wN=a:=⟨_,rfl⟩
      have eA':(kd:Int)*(D1:Int)=(A:Int):=by rw [← eA];push_cast;rfl
      have eB':(km:Int)*(wN:Int)=(B:Int):=by rw [← eB];push_cast;rfl
      rw [eA,eB] at hroom ebst eP2
      obtain ⟨C,eC⟩:∃ a,A+B=a:=⟨_,rfl⟩
      have eC':(A:Int)+(B:Int)=(C:Int):=by omega
      rw [eC] at hroom ebst eP2
      rw [← ebst] at eP2
      obtain ⟨bst,ebs⟩:∃ a,bestK ((x.drop C).take wN) 0 (wN - 1)=a:=⟨_,rfl⟩
      rw [ebs] at eP2
      rw [eP2] at eP eV hplt
      obtain ⟨E,eE⟩:∃ a,C+wN=a:=⟨_,rfl⟩
      have eE':(C:Int)+(wN:Int)=(E:Int):=by omega
      obtain ⟨PP,ePP⟩:∃ a,C+bst=a:=⟨_,rfl⟩
      have ePP':(C:Int)+(bst:Int)=(PP:Int):=by omega
      rw [ePP] at eP eV hplt
      obtain ⟨Z,eZ⟩:∃ Z,x.getD PP 0=Z:=⟨_,rfl⟩
      rw [eZ] at eV
      have hbd:(kd:Int)≤4096∧(km:Int)≤4096∧(A:Int)≤4096∧(B:Int)≤4096∧(C:Int)≤4096∧(E:Int)≤4096∧(PP:Int) < (n2:Int)∧(n2:Int)≤4096∧(bst:Int)≤4096:=by have:=HX0.out.2.2.1;omega
      have kcut:∀ W,Sem.run Tryz.prog (Instr.slice 23 (.slice p2 n2 c2) (some (.int .i64 (C:Int))) (some (.int .i64 (E:Int))) none) W = .ok (sliced p2 C E c2 1) W:=fun W=>cutF_lh p2 n2 c2 C E (by omega) (by have:=HX0.out.2.2;omega) W
      obtain ⟨pc,epc⟩:=sliced_is p2 C E c2
      rw [show E - C=wN by omega] at epc
      have cF:Hid (∀ W,Below w.heap.size w W→Calls Tryz.prog 104 #[.slice pc wN (c2 - C)] W fun e w'=>e = .returned (.int .i64 (bst:Int))∧w'=W):=fun W hW=>by
       have hc:=cut_nums (i:=C) (j:=E) (by omega) (by have:=HX0.out.2.2.1;omega) (by rw [HX0.out.2.1];exact HX0.out.2.2.1.symm) HX0.out.2.2.2.2.1 (HX0.out.2.2.2.2.2.up hW)
       rw [epc,show E - C=wN by omega] at hc
       have:=first_any pc wN (c2 - C) _ (fun z hz=>HX0.out.1 z (List.mem_of_mem_drop (List.mem_of_mem_take hz))) hw1.1 (by omega) W hc
       rw [ebs] at this
       exact this
      rw [epc] at kcut
      have HZ:Hid (P.getD k 0=(PP:Int)∧V.getD k 0=Z):=⟨eP,eV⟩
      obtain ⟨_,_,_,e4,HXl⟩:=HX0.out.2.2.2.2.2.lst
      cases e4
      obtain ⟨qx,ox,ex2,hcx⟩:=HXl.out.2 PP (by omega)
      subst ex2
      rw [eZ] at hcx
      have Hcx:Hid (w.cell? ⟨qx,ox+PP,none⟩=some (.int .i64 Z)):=hcx
      obtain ⟨a0,a1,_,_⟩:=XA.out.up HBk.out.2
      have a9:=cell_lt a0
      obtain ⟨hown,hfz⟩:=HO.out.2.cell (by rw [rowF_len];exact HV.out.2.1) k hkn
      have ltl:=cell_lt hown
      clear eP eV eP2 ebst ebs epc eZ ePP eE eC eA eB ekd ekm hcx HXl hroom hplt hdk hmk hx4
      go_wp2_with fail
      go_quiet (fail)
      generalize hw8:World.drewN R1 nq=w8
      have hB8:Below R1.heap.size R1 w8:=by rw [← hw8];exact below_drew (Below.refl _ _) nq
      have HO8:Hid (OwnK .i64 22 w8 gp (.slice (some ⟨gp,0,none⟩) NM NM) (rowF V k)∧OwnK .i64 3 w8 gl (.slice (some ⟨gl,0,none⟩) NM NM) (rowF P k)):=⟨HO.out.1.up hB8,HO.out.2.up hB8⟩
      have HB8:=hid2 (bstep HBk.out.1 hB8) (bstep HBk.out.2 hB8)
      clear hw8 hB8 a0 a1 a9 hown hfz ltl HO HBk
      obtain ⟨a0,a1,_,_⟩:=XA.out.up HB8.out.2
      have a9:=cell_lt a0
      obtain ⟨hown,hfz⟩:=HO8.out.2.cell (by rw [rowF_len];exact HV.out.2.1) k hkn
      have ltl:=cell_lt hown
      go_wp2_with fail
      refine (cF.out w8 HB8.out.1).mono ?_
      rintro e w9 ⟨rfl,rfl⟩
      have hgl:w.heap.size≤gl∧W0.heap.size≤gl∧w.heap.size≤gp∧W0.heap.size≤gp∧gl≠gp:=by have:=HG.out;omega
      have N1:Hid (OwnK .i64 22 (w9.setCell ⟨gl,k,none⟩ (.int .i64 (PP:Int))) gp (.slice (some ⟨gp,0,none⟩) NM NM) (rowF V k)∧OwnK .i64 3 (w9.setCell ⟨gl,k,none⟩ (.int .i64 (PP:Int))) gl (.slice (some ⟨gl,0,none⟩) NM NM) (rowF P (k+1))):=by
       refine ⟨HO8.out.1.stay ((Stay.refl gl w9).set k _) (fun ad n c e=>by cases e;show gp≠gl;omega),?_⟩
       have:=HO8.out.2.store (by rw [rowF_len];exact HV.out.2.1) k (PP:Int)
       rw [← HZ.out.1,rowF_set P k (by rw [HV.out.2.1];exact hkn)] at this
       rw [← HZ.out.1]
       exact this
      have N2:Hid (Below w.heap.size w (w9.setCell ⟨gl,k,none⟩ (.int .i64 (PP:Int)))∧Below W0.heap.size W0 (w9.setCell ⟨gl,k,none⟩ (.int .i64 (PP:Int)))):=⟨HB8.out.1.setCell (p:=⟨gl,k,none⟩) hgl.1 _,HB8.out.2.setCell (p:=⟨gl,k,none⟩) hgl.2.1 _⟩
      clear HO8 HB8 cF a0 a1 a9
      go_wp2_with fail
      refine name_world (fun w10 hw10=>?_)
      rw [← hw10] at N1 N2
      clear hw10 hown hfz ltl
      obtain ⟨a0,a1,_,_⟩:=XA.out.up N2.out.2
      have a9:=cell_lt a0
      obtain ⟨hown,_⟩:=N1.out.2.cell (by rw [rowF_len];exact HV.out.2.1) k hkn
      have ltl:=cell_lt hown
      have eRow:(rowF P (k+1)).getD k 0=(PP:Int):=by
       rw [← HZ.out.1,← rowF_set P k (by rw [HV.out.2.1];exact hkn)]
       rw [List.getD_eq_getElem?_getD,List.getElem?_set_self (by rw [rowF_len,HV.out.2.1];exact hkn)]
       rfl
      rw [eRow] at hown
      have hcx1:=cell_low Hcx.out N2.out.1
      have ltx:=cell_lt hcx1
      clear eRow
      refine flow 11 97 (by kernel_rfl) rfl rfl (by kernel_rfl) ?_
      apply Exists.intro
      refine ⟨?_,?_⟩
      ·intro F hF
       have hFc:=hF.cell
       have hFf:=hF.frozen
       simp only [List.take_succ_cons,List.take_zero,List.eraseIdx_cons_succ,List.eraseIdx_cons_zero]
       repeat (go_big_quiet_step (fail))
       refine wpQuiet_nil ?_
       exact rfl
      ·intro W5 hW5
       simp only [List.drop_succ_cons,List.drop_zero]
       have HR2:=N1.out.1.up hW5
       have HR3:=N1.out.2.up hW5
       obtain ⟨hown2,hfz2⟩:=HR2.cell (by rw [rowF_len];exact HV.out.1) k hkn
       have lt2:=cell_lt hown2
       have H5:Hid (OwnK .i64 22 (W5.setCell ⟨gp,k,none⟩ (.int .i64 Z)) gp (.slice (some ⟨gp,0,none⟩) NM NM) (rowF V (k+1))∧OwnK .i64 3 (W5.setCell ⟨gp,k,none⟩ (.int .i64 Z)) gl (.slice (some ⟨gl,0,none⟩) NM NM) (rowF P (k+1))):=by
        refine ⟨?_,HR3.stay ((Stay.refl gp W5).set k _) (fun ad n c e=>by cases e;show gl≠gp;omega)⟩
        have:=HR2.store (by rw [rowF_len];exact HV.out.1) k Z
        rw [← HZ.out.2,rowF_set V k (by rw [HV.out.1];exact hkn)] at this
        rw [← HZ.out.2]
        exact this
       have H6:Hid (Below w.heap.size w (W5.setCell ⟨gp,k,none⟩ (.int .i64 Z))∧Below W0.heap.size W0 (W5.setCell ⟨gp,k,none⟩ (.int .i64 Z))):=⟨(bstep N2.out.1 hW5).setCell (p:=⟨gp,k,none⟩) hgl.2.2.1 _,(bstep N2.out.2 hW5).setCell (p:=⟨gp,k,none⟩) hgl.2.2.2.1 _⟩
       clear hW5 HR2 HR3 a0 a1 a9 hown ltl hcx1 ltx N1 N2
       go_wp2
       go_roundg (NM - (k+1))
       case measure=>omega
       case rel=>exact ⟨k+1,by omega,rfl,by first|rfl|simp,H5,H6⟩
     ·obtain rfl:k=NM:=by omega
      have hk':¬ (k:Int) < (k:Int):=by omega
      have f1:=HO.out.1
      have f2:=HO.out.2
      have g1:rowF V k=V:=by have:=rowF_full V;rw [HV.out.1] at this;exact this
      have g2:rowF P k=P:=by have:=rowF_full P;rw [HV.out.2.1] at this;exact this
      rw [g1] at f1
      rw [g2] at f2
      have o1:OwnK .i64 3 (R1.alloc (.cells #[.int .i64 (D0:Int),.int .i64 (q:Int)] 3)) R1.heap.size (.slice (some ⟨R1.heap.size,0,none⟩) 2 2) [(D0:Int),(q:Int)]:=own_lit (k:=.i64) R1 [(D0:Int),(q:Int)] 2 rfl (by decide)
      have hU:=up_alloc R1 (.cells #[.int .i64 (D0:Int),.int .i64 (q:Int)] 3)
      have xr:=(XR.out.up HBk.out.2).up hU
      have hgs:=HG.out
      have hRs:=HBk.out.2.size
      have HF:Hid (TRes (set2 (R1.alloc (.cells #[.int .i64 (D0:Int),.int .i64 (q:Int)] 3)) (w.heap.size+1) (.slice (some ⟨R1.heap.size,0,none⟩) 2 2) (.slice (some ⟨gp,0,none⟩) k k)) w.heap.size (.agg #[.slice (some ⟨R1.heap.size,0,none⟩) 2 2,.slice (some ⟨gp,0,none⟩) k k]) [(D0:Int),(q:Int)] V∧OwnK .i64 3 (set2 (R1.alloc (.cells #[.int .i64 (D0:Int),.int .i64 (q:Int)] 3)) (w.heap.size+1) (.slice (some ⟨R1.heap.size,0,none⟩) 2 2) (.slice (some ⟨gp,0,none⟩) k k)) w.heap.size (.slice (some ⟨gl,0,none⟩) k k) P∧Below w.heap.size w (set2 (R1.alloc (.cells #[.int .i64 (D0:Int),.int .i64 (q:Int)] 3)) (w.heap.size+1) (.slice (some ⟨R1.heap.size,0,none⟩) 2 2) (.slice (some ⟨gp,0,none⟩) k k))):=
       ⟨(TRes.set (B:=W0.heap.size) (o1.low hRs) ((f1.up hU).low (by omega)) (by omega)).low (by omega),((f2.up hU).stay (Stay.set2 _ _ _) ((f2.up hU).off (by omega))).low (by omega),below_cell (bstep HBk.out.1 hU) _ (by omega) _ _⟩
      have cf:=xr.set (.slice (some ⟨R1.heap.size,0,none⟩) 2 2) (.slice (some ⟨gp,0,none⟩) k k)
      obtain ⟨r0,r1,r2,r3⟩:=xr
      obtain ⟨y0,y1,_,_⟩:=cf
      have r9:=cell_lt r0
      clear f1 f2 g1 g2 o1 hU hgs hRs HO HBk
      go_wp2
      exact bodyPost_ret (v:=.tuple #[.agg #[.slice (some ⟨R1.heap.size,0,none⟩) 2 2,.slice (some ⟨gp,0,none⟩) k k],.slice (some ⟨gl,0,none⟩) k k,.int .i64 0]) (by simp [results,Tryz.results54,go_sem,y0,y1]) rfl ⟨_,_,rfl,HF.out⟩
   ·obtain ⟨e1,e2,e3⟩:=pl_none (d:=[(D0:Int),(D1:Int)]) (x:=x) (wd:=wd) (fun h=>hw h.2.2)
    have e0:plE [(D0:Int),(D1:Int)] x wd=1:=by
     unfold plE
     rw [if_pos hp,if_pos (show [(D0:Int),(D1:Int)].length=2 from rfl),if_neg (show ¬ plW [(D0:Int),(D1:Int)] wd from hw)]
    rw [e0,e1,e2,e3]
    clear e0 e1 e2 e3 hp hx hx0 h1 h2 HD HX HDc hd
    by_cases hw1:wd < 1
    ·have hw2:¬ 1≤wd:=by omega
     go_enter Tryz.func54,Tryz.ntmps54
     go_wp2_with fail
     generalize hW0:World.alloc _ _=W0
     have HB0:=hidB (w:=w) hW0 (by go_grown)
     have XA:Hid (Cel W0 w.heap.size (.slice (some ⟨qa,oa,none⟩) 2 c) (.slice p2 n2 c2)):=celW hW0 (by simp [go_sem])
     have XR:Hid (Cel W0 (w.heap.size+1) (.slice none 0 0) (.slice none 0 0)):=celW hW0 (by simp [go_sem])
     clear hW0
     refine (cA W0 HB0.out).mono ?_
     rintro e w1 ⟨rfl,hB1⟩
     have HB1:=hid2 (bstep HB0.out hB1) hB1
     clear hB1 cA
     obtain ⟨a0,a1,_,_⟩:=XA.out.up HB1.out.2
     have a9:=cell_lt a0
     have ua0:=cell_low ca0 HB1.out.1
     have ua1:=cell_low ca1 HB1.out.1
     have ua9:=cell_lt ua0
     go_wp2_with fail
     go_quiet (fail)
     generalize hw5:World.drewN w1 nq=w5
     have HB5:Hid (Below w.heap.size w w5∧Below W0.heap.size W0 w5):=by rw [← hw5];exact ⟨below_drew HB1.out.1 nq,below_drew HB1.out.2 nq⟩
     clear hw5 a0 a1 a9 ua0 ua1 ua9
     have xr:=XR.out.up HB5.out.2
     have BF:=below_cell HB5.out.1 (w.heap.size+1) (by omega) (.slice none 0 0) (.slice none 0 0)
     have cf:=xr.set (.slice none 0 0) (.slice none 0 0)
     obtain ⟨r0,r1,r2,r3⟩:=xr
     obtain ⟨y0,y1,_,_⟩:=cf
     go_wp2
     exact bodyPost_ret (v:=.tuple #[.agg #[.slice none 0 0,.slice none 0 0],.slice none 0 0,.int .i64 1]) (by simp [results,Tryz.results54,go_sem,y0,y1]) rfl ⟨_,_,rfl,TRes.none _ _,OwnK.nil _ _ _ _,BF⟩
    ·have hw2:(D1:Int) < wd:=by omega
     have hw3:¬ wd≤(D1:Int):=by omega
     go_enter Tryz.func54,Tryz.ntmps54
     go_wp2_with fail
     generalize hW0:World.alloc _ _=W0
     have HB0:=hidB (w:=w) hW0 (by go_grown)
     have XA:Hid (Cel W0 w.heap.size (.slice (some ⟨qa,oa,none⟩) 2 c) (.slice p2 n2 c2)):=celW hW0 (by simp [go_sem])
     have XR:Hid (Cel W0 (w.heap.size+1) (.slice none 0 0) (.slice none 0 0)):=celW hW0 (by simp [go_sem])
     clear hW0
     refine (cA W0 HB0.out).mono ?_
     rintro e w1 ⟨rfl,hB1⟩
     have HB1:=hid2 (bstep HB0.out hB1) hB1
     clear hB1 cA
     obtain ⟨a0,a1,_,_⟩:=XA.out.up HB1.out.2
     have a9:=cell_lt a0
     have ua0:=cell_low ca0 HB1.out.1
     have ua1:=cell_low ca1 HB1.out.1
     have ua9:=cell_lt ua0
     go_wp2_with fail
     go_quiet (fail)
     generalize hw5:World.drewN w1 nq=w5
     have HB5:Hid (Below w.heap.size w w5∧Below W0.heap.size W0 w5):=by rw [← hw5];exact ⟨below_drew HB1.out.1 nq,below_drew HB1.out.2 nq⟩
     clear hw5 a0 a1 a9 ua0 ua1 ua9
     have xr:=XR.out.up HB5.out.2
     have BF:=below_cell HB5.out.1 (w.heap.size+1) (by omega) (.slice none 0 0) (.slice none 0 0)
     have cf:=xr.set (.slice none 0 0) (.slice none 0 0)
     obtain ⟨r0,r1,r2,r3⟩:=xr
     obtain ⟨y0,y1,_,_⟩:=cf
     go_wp2
     exact bodyPost_ret (v:=.tuple #[.agg #[.slice none 0 0,.slice none 0 0],.slice none 0 0,.int .i64 1]) (by simp [results,Tryz.results54,go_sem,y0,y1]) rfl ⟨_,_,rfl,TRes.none _ _,OwnK.nil _ _ _ _,BF⟩
  ·obtain ⟨e1,e2,e3⟩:=pl_none (d:=d) (x:=x) (wd:=wd) (fun h=>hn (by rw [← HD.out.1];exact h.2.1))
   have e0:plE d x wd=4:=by
    unfold plE
    rw [if_pos hp,if_neg (by rw [HD.out.1];exact hn)]
   rw [e0,e1,e2,e3]
   have hne:((n:Int) != 2)=true:=by simp;omega
   have hne':¬ ((n:Int)=2):=by omega
   clear e0 e1 e2 e3 hp hx h1 h2 HD HX hd hn
   go_enter Tryz.func54,Tryz.ntmps54
   go_wp2_with fail
   generalize hW0:World.alloc _ _=W0
   have HB0:=hidB (w:=w) hW0 (by go_grown)
   have XA:Hid (Cel W0 w.heap.size (.slice p n c) (.slice p2 n2 c2)):=celW hW0 (by simp [go_sem])
   have XR:Hid (Cel W0 (w.heap.size+1) (.slice none 0 0) (.slice none 0 0)):=celW hW0 (by simp [go_sem])
   clear hW0
   refine (cA W0 HB0.out).mono ?_
   rintro e w1 ⟨rfl,hB1⟩
   have HB1:=hid2 (bstep HB0.out hB1) hB1
   clear hB1 cA
   obtain ⟨a0,a1,_,_⟩:=XA.out.up HB1.out.2
   have a9:=cell_lt a0
   have xr:=XR.out.up HB1.out.2
   have BF:=below_cell HB1.out.1 (w.heap.size+1) (by omega) (.slice none 0 0) (.slice none 0 0)
   have cf:=xr.set (.slice none 0 0) (.slice none 0 0)
   obtain ⟨r0,r1,r2,r3⟩:=xr
   obtain ⟨y0,y1,_,_⟩:=cf
   go_wp2
   exact bodyPost_ret (v:=.tuple #[.agg #[.slice none 0 0,.slice none 0 0],.slice none 0 0,.int .i64 4]) (by simp [results,Tryz.results54,go_sem,y0,y1]) rfl ⟨_,_,rfl,TRes.none _ _,OwnK.nil _ _ _ _,BF⟩
 ·rw [decide_eq_false hp] at cA
  obtain ⟨e1,e2,e3⟩:=pl_none (d:=d) (x:=x) (wd:=wd) (fun h=>hp h.1)
  rw [show plE d x wd=1 from if_neg hp,e1,e2,e3]
  clear e1 e2 e3 hp hx h1 h2 HD HX hd
  go_enter Tryz.func54,Tryz.ntmps54
  go_wp2_with fail
  generalize hW0:World.alloc _ _=W0
  have HB0:=hidB (w:=w) hW0 (by go_grown)
  have XA:Hid (Cel W0 w.heap.size (.slice p n c) (.slice p2 n2 c2)):=celW hW0 (by simp [go_sem])
  have XR:Hid (Cel W0 (w.heap.size+1) (.slice none 0 0) (.slice none 0 0)):=celW hW0 (by simp [go_sem])
  clear hW0
  refine (cA W0 HB0.out).mono ?_
  rintro e w1 ⟨rfl,hB1⟩
  have HB1:=hid2 (bstep HB0.out hB1) hB1
  clear hB1 cA
  obtain ⟨a0,a1,_,_⟩:=XA.out.up HB1.out.2
  have a9:=cell_lt a0
  have xr:=XR.out.up HB1.out.2
  have BF:=below_cell HB1.out.1 (w.heap.size+1) (by omega) (.slice none 0 0) (.slice none 0 0)
  have cf:=xr.set (.slice none 0 0) (.slice none 0 0)
  obtain ⟨r0,r1,r2,r3⟩:=xr
  obtain ⟨y0,y1,_,_⟩:=cf
  go_wp2
  exact bodyPost_ret (v:=.tuple #[.agg #[.slice none 0 0,.slice none 0 0],.slice none 0 0,.int .i64 1]) (by simp [results,Tryz.results54,go_sem,y0,y1]) rfl ⟨_,_,rfl,TRes.none _ _,OwnK.nil _ _ _ _,BF⟩
end Go.Proofs.YtaiigfhicaelkabGreatDoor.Wd
