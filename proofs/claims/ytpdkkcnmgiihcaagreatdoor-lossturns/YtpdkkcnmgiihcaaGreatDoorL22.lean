/- LossTurns: what comes out and what is wanted, changed for one another, are as far off. -/
import Derived.Test.YtpdkkcnmgiihcaaGreatDoorL19
import Derived.Test.YtpdkkcnmgiihcaaGreatDoorL21
import Derived.BigQuiet
import Derived.Deep.CutBlock
set_option linter.unusedVariables false
set_option linter.unusedSimpArgs false
set_option maxHeartbeats 16000000
set_option maxRecDepth 16000
namespace Go.Proofs.YtpdkkcnmgiihcaaGreatDoor.Wd
open Go.RowKit Fx
theorem lturns_walk (w:World) (hT:Hid (Tz w)) (za:Nat→Int) (n c:Nat) (p:Option Addr) (zb:Nat→Int) (n2 c2:Nat) (p2:Option Addr) (r1:RowN .i64 w p n c za) (r2:RowN .i64 w p2 n2 c2 zb):
  Calls Tryz.prog 7 #[.slice p n c,.slice p2 n2 c2] w fun e w'=>e = .returned (.bool true)∧Below w.heap.size w w':=by
 have HA:Hid (Nums .i64 w (.slice p n c) (nlst n za)∧Nums .i64 w (.slice p2 n2 c2) (nlst n2 zb)∧RI (nlst n za)∧RI (nlst n2 zb)∧(nlst n za).length=n∧(nlst n2 zb).length=n2):=⟨r1.nums,r2.nums,fun y hy=>bounds_i64 (r1.wf y hy),fun y hy=>bounds_i64 (r2.wf y hy),nlst_len _ _,nlst_len _ _⟩
 have hf1:(n:Int)≤9223372036854775807:=by have h1:=r1.1.1;have h2:=r1.1.2.1;omega
 have hf2:(n2:Int)≤9223372036854775807:=by have h1:=r2.1.1;have h2:=r2.1.2.1;omega
 obtain ⟨x,ex⟩:∃ x,nlst n za=x:=⟨_,rfl⟩
 obtain ⟨y,ey⟩:∃ y,nlst n2 zb=y:=⟨_,rfl⟩
 rw [ex,ey] at HA
 clear ex ey r1 r2
 haveI:Nonempty World:=⟨w⟩
 go_enter Tryz.func7,Tryz.ntmps7
 go_wp2_with fail
 refine (awake13_any w hT).mono ?_
 rintro e wa ⟨rfl,hBa⟩
 have HBa:Hid (Below w.heap.size w wa):=hBa
 clear hBa
 by_cases hn1:n < 1
 ·have:(n:Int) < 1:=by omega
  go_wp2
  go_ret
  exact ⟨rfl,HBa.out⟩
 have hn1':1≤(n:Int):=by omega
 by_cases hn2:50 < n
 ·have:(50:Int) < (n:Int):=by omega
  go_wp2
  go_ret
  exact ⟨rfl,HBa.out⟩
 have hn2':(n:Int)≤50:=by omega
 by_cases hnn:n2=n
 rotate_left
 ·have:((n2:Int) != (n:Int))=true:=by simp;omega
  clear hnn
  go_wp2
  go_ret
  exact ⟨rfl,HBa.out⟩
 subst hnn
 obtain ⟨_,_,_,e4,HX⟩:=HA.out.1.lst
 cases e4
 obtain ⟨_,_,_,e4,HY⟩:=HA.out.2.1.lst
 cases e4
 go_wp2_with fail
 go_loopg [5] n2 (fun gg i wr=>∃ (k:Nat),k≤n2∧gg=n2 - k∧i = .int .i64 (k:Int)∧wr=wa∧Hid (∀ i,i < k→(-2305843009213693952≤x.getD i 0∧x.getD i 0≤2305843009213693952)∧(-2305843009213693952≤y.getD i 0∧y.getD i 0≤2305843009213693952)))
 case atStart=>exact ⟨0,by omega,by omega,by first|rfl|simp,rfl,fun i hi=>by omega⟩
 case round=>
  obtain ⟨k,hk,hg,rfl,rfl,HI⟩:=hrel
  by_cases hkn:k < n2
  ·have hk':(k:Int) < (n2:Int):=by omega
   obtain ⟨q,o,rfl,hc0⟩:=HX.out.2 k hkn
   have hc1:=cell_low hc0 HBa.out
   obtain ⟨q2,o2,rfl,hd0⟩:=HY.out.2 k hkn
   have hd1:=cell_low hd0 HBa.out
   have hq1:=cell_lt hc1
   have hq2:=cell_lt hd1
   obtain ⟨a,ea⟩:∃ a,x.getD k 0=a:=⟨_,rfl⟩
   obtain ⟨b,eb⟩:∃ b,y.getD k 0=b:=⟨_,rfl⟩
   rw [ea] at hc1
   rw [eb] at hd1
   have HE:Hid (x.getD k 0=a∧y.getD k 0=b):=⟨ea,eb⟩
   clear ea eb hc0 hd0
   by_cases h1:a < -2305843009213693952
   ·go_wp2
    go_ret
    exact ⟨rfl,HBa.out⟩
   by_cases h2:2305843009213693952 < a
   ·go_wp2
    go_ret
    exact ⟨rfl,HBa.out⟩
   by_cases h3:b < -2305843009213693952
   ·go_wp2
    go_ret
    exact ⟨rfl,HBa.out⟩
   by_cases h4:2305843009213693952 < b
   ·go_wp2
    go_ret
    exact ⟨rfl,HBa.out⟩
   have HN:Hid (∀ i,i < k+1→(-2305843009213693952≤x.getD i 0∧x.getD i 0≤2305843009213693952)∧(-2305843009213693952≤y.getD i 0∧y.getD i 0≤2305843009213693952)):=fun i hi=>by
    by_cases e:i=k
    ·subst e
     rw [HE.out.1,HE.out.2]
     omega
    ·exact HI.out i (by omega)
   go_wp2
   go_roundg (n2 - (k+1))
   case measure=>omega
   case rel=>exact ⟨k+1,by omega,rfl,by first|rfl|simp,rfl,HN⟩
  obtain rfl:k=n2:=by omega
  have HM:Hid (RwP k x∧RwP k y∧R61 x∧R61 y∧RI x∧RI y):=by
   refine ⟨⟨HA.out.2.2.2.2.1,by omega,by omega⟩,⟨HA.out.2.2.2.2.2,by omega,by omega⟩,fun i=>?_,fun i=>?_,HA.out.2.2.1,HA.out.2.2.2.1⟩
   ·rcases Nat.lt_or_ge i k with h|h
    ·exact (HI.out i h).1
    ·rw [List.getD_eq_getElem?_getD,List.getElem?_eq_none (by rw [HA.out.2.2.2.2.1];exact h)]
     show (-2305843009213693952:Int)≤0∧(0:Int)≤2305843009213693952
     omega
   ·rcases Nat.lt_or_ge i k with h|h
    ·exact (HI.out i h).2
    ·rw [List.getD_eq_getElem?_getD,List.getElem?_eq_none (by rw [HA.out.2.2.2.2.2];exact h)]
     show (-2305843009213693952:Int)≤0∧(0:Int)≤2305843009213693952
     omega
  have hk4:k≤4096:=by omega
  have HF:Hid (Fit (one1 k x) 0 k x y 4∧Fit (one1 k y) 0 k y x 4):=⟨one_fit HM.out.1 HM.out.2.1,one_fit HM.out.2.1 HM.out.1⟩
  have HF2:Hid (Fit (sq4 (one1 k x) 0 k x y) 0 k x y 4∧Fit (sq4 (one1 k y) 0 k y x) 0 k y x 4):=⟨⟨HM.out.1,HM.out.2.1,(one_n k x).sq _ _ _ _,by rw [sq4_len];show 1+4+4≤512;omega⟩,⟨HM.out.2.1,HM.out.1,(one_n k y).sq _ _ _ _,by rw [sq4_len];show 1+4+4≤512;omega⟩⟩
  have HG:Hid (NodesG (one1 k x)∧NodesG (one1 k y)∧NodesG (sq4 (one1 k x) 0 k x y)∧NodesG (sq4 (one1 k y) 0 k y x)):=⟨one_G HM.out.1 HM.out.2.2.2.2.1,one_G HM.out.2.1 HM.out.2.2.2.2.2,HF.out.1.sqG (one_G HM.out.1 HM.out.2.2.2.2.1) HM.out.2.2.2.2.2,HF.out.2.sqG (one_G HM.out.2.1 HM.out.2.2.2.2.2) HM.out.2.2.2.2.1⟩
  obtain ⟨A,eA⟩:∃ A,meanI (sqV x y)=A:=⟨_,rfl⟩
  obtain ⟨C,eC⟩:∃ A,meanI (szV x y)=A:=⟨_,rfl⟩
  have hA0:0≤A:=by rw [← eA];exact sq_mean HM.out.1
  have hC0:0≤C:=by rw [← eC];exact sz_mean HM.out.1
  have HV:Hid (meanI (sqV x y)=A∧meanI (sqV y x)=A∧meanI (szV x y)=C∧meanI (szV y x)=C):=⟨eA,by rw [turn_sq HM.out.1 HM.out.2.1 HM.out.2.2.1 HM.out.2.2.2.1];exact eA,eC,by rw [turn_sz HM.out.1 HM.out.2.1 HM.out.2.2.1 HM.out.2.2.2.1];exact eC⟩
  clear eA eC HI HX HY
  go_wp2_with fail
  refine (cnew_any wr).mono ?_
  rintro e w1 ⟨tb,rfl,hT1,hB1⟩
  have H1:Hid (TapC w1 wr.heap.size tb []∧Below w.heap.size w w1):=⟨hT1,bstep HBa.out hB1⟩
  clear hT1 hB1
  go_wp2_with fail
  refine (cnew_any w1).mono ?_
  rintro e w2 ⟨ub,rfl,hU2,hB2⟩
  have H2:Hid (Two w w2 wr.heap.size tb [] w1.heap.size ub []):=⟨H1.out.1.up hB2,hU2,Apart.new H1.out.1 hB2 hU2,bstep H1.out.2 hB2,HBa.out.size,H1.out.2.size⟩
  clear hU2 hB2 H1
  go_wp2_with fail
  refine (row13_any _ k c x w2 (HA.out.1.up H2.out.b) hk4).mono ?_
  rintro e r3 ⟨g3,rfl,ha3,hb3,_,_,hB3⟩
  have Q3:=H2.out.up hB3
  go_wp2_with fail
  have cc:=cleaf_sp wr.heap.size tb [] NodesG.nil _ _ 1 1 k c [(k:Int)] x (fun z hz=>by simp at hz;subst hz;omega) HM.out.2.2.2.2.1 r3 Q3.t ha3 hb3
  rw [(one_ok HM.out.1).1,(one_ok HM.out.1).2.1,(one_ok HM.out.1).2.2] at cc
  refine cc.mono ?_
  rintro e w3 ⟨rfl,hT',hC',hO',hS'⟩
  have H3:Hid (Two w w3 wr.heap.size tb (one1 k x) w1.heap.size ub []):=Q3.st hT' hC' hO' hS'
  clear cc hT' hC' hO' hS' Q3 ha3 hb3 hB3 H2
  go_wp2_with fail
  refine (row13_any _ k c2 y w3 (HA.out.2.1.up H3.out.b) hk4).mono ?_
  rintro e r4 ⟨g4,rfl,ha4,hb4,_,_,hB4⟩
  have Q4:=H3.out.up hB4
  go_wp2_with fail
  have cc:=cleaf_sp w1.heap.size ub [] NodesG.nil _ _ 1 1 k c2 [(k:Int)] y (fun z hz=>by simp at hz;subst hz;omega) HM.out.2.2.2.2.2 r4 Q4.u ha4 hb4
  rw [(one_ok HM.out.2.1).1,(one_ok HM.out.2.1).2.1,(one_ok HM.out.2.1).2.2] at cc
  refine cc.mono ?_
  rintro e w4 ⟨rfl,hT',hC',hO',hS'⟩
  have H4:Hid (Two w w4 wr.heap.size tb (one1 k x) w1.heap.size ub (one1 k y)):=Q4.su hT' hC' hO' hS'
  clear cc hT' hC' hO' hS' Q4 ha4 hb4 hB4 H3
  go_wp2_with fail
  have cc:=csquare_any wr.heap.size tb (one1 k x) HG.out.1 (by show 1≤512;omega) 0 _ k c2 y HM.out.2.2.2.2.2 w4 H4.out.t (show Hid _ from fun W hW=>hT.out.up (H4.out.b.trans (hW.mono H4.out.lt))) (KeptL.arg HA.out.2.1 H4.out.lt H4.out.b)
  rw [HF.out.1.square.1,HF.out.1.square.2.1,HF.out.1.square.2.2,show (((one1 k x).length:Nat):Int)+3=4 by rfl] at cc
  refine cc.mono ?_
  rintro e w5 ⟨rfl,hT',hC',hO',hS'⟩
  have H5:Hid (Two w w5 wr.heap.size tb (sq4 (one1 k x) 0 k x y) w1.heap.size ub (one1 k y)):=H4.out.st hT' hC' hO' hS'
  clear cc hT' hC' hO' hS' H4
  go_wp2_with fail
  have cc:=csquare_any w1.heap.size ub (one1 k y) HG.out.2.1 (by show 1≤512;omega) 0 _ k c x HM.out.2.2.2.2.1 w5 H5.out.u (show Hid _ from fun W hW=>hT.out.up (H5.out.b.trans (hW.mono H5.out.lu))) (KeptL.arg HA.out.1 H5.out.lu H5.out.b)
  rw [HF.out.2.square.1,HF.out.2.square.2.1,HF.out.2.square.2.2,show (((one1 k y).length:Nat):Int)+3=4 by rfl] at cc
  refine cc.mono ?_
  rintro e w6 ⟨rfl,hT',hC',hO',hS'⟩
  have H6:Hid (Two w w6 wr.heap.size tb (sq4 (one1 k x) 0 k x y) w1.heap.size ub (sq4 (one1 k y) 0 k y x)):=H5.out.su hT' hC' hO' hS'
  clear cc hT' hC' hO' hS' H5
  go_wp2_with fail
  have cc:=csize_any wr.heap.size tb (sq4 (one1 k x) 0 k x y) HG.out.2.2.1 (by rw [sq4_len];show 1+4≤512;omega) 0 _ k c2 y HM.out.2.2.2.2.2 w6 H6.out.t (show Hid _ from fun W hW=>hT.out.up (H6.out.b.trans (hW.mono H6.out.lt))) (KeptL.arg HA.out.2.1 H6.out.lt H6.out.b)
  rw [HF2.out.1.size.1,HF2.out.1.size.2.1,HF2.out.1.size.2.2,show (((sq4 (one1 k x) 0 k x y).length:Nat):Int)+3=8 by rw [sq4_len];rfl] at cc
  refine cc.mono ?_
  rintro e w7 ⟨rfl,hT',hC',hO',hS'⟩
  have H7:Hid (Two w w7 wr.heap.size tb (sz4 (sq4 (one1 k x) 0 k x y) 0 k x y) w1.heap.size ub (sq4 (one1 k y) 0 k y x)):=H6.out.st hT' hC' hO' hS'
  clear cc hT' hC' hO' hS' H6
  go_wp2_with fail
  have cc:=csize_any w1.heap.size ub (sq4 (one1 k y) 0 k y x) HG.out.2.2.2 (by rw [sq4_len];show 1+4≤512;omega) 0 _ k c x HM.out.2.2.2.2.1 w7 H7.out.u (show Hid _ from fun W hW=>hT.out.up (H7.out.b.trans (hW.mono H7.out.lu))) (KeptL.arg HA.out.1 H7.out.lu H7.out.b)
  rw [HF2.out.2.size.1,HF2.out.2.size.2.1,HF2.out.2.size.2.2,show (((sq4 (one1 k y) 0 k y x).length:Nat):Int)+3=8 by rw [sq4_len];rfl] at cc
  refine cc.mono ?_
  rintro e w8 ⟨rfl,hT',hC',hO',hS'⟩
  have H8:Hid (Two w w8 wr.heap.size tb (sz4 (sq4 (one1 k x) 0 k x y) 0 k x y) w1.heap.size ub (sz4 (sq4 (one1 k y) 0 k y x) 0 k y x)):=H7.out.su hT' hC' hO' hS'
  clear cc hT' hC' hO' hS' H7
  have HGG:Hid (NodesG (sz4 (sq4 (one1 k x) 0 k x y) 0 k x y)∧NodesG (sz4 (sq4 (one1 k y) 0 k y x) 0 k y x)∧(sz4 (sq4 (one1 k x) 0 k x y) 0 k x y)[4]?=some ⟨10,3,-1,0,[],[A]⟩∧(sz4 (sq4 (one1 k y) 0 k y x) 0 k y x)[4]?=some ⟨10,3,-1,0,[],[A]⟩∧(sz4 (sq4 (one1 k x) 0 k x y) 0 k x y)[8]?=some ⟨10,7,-1,0,[],[C]⟩∧(sz4 (sq4 (one1 k y) 0 k y x) 0 k y x)[8]?=some ⟨10,7,-1,0,[],[C]⟩):=by
   refine ⟨HF2.out.1.szG HG.out.2.2.1 HM.out.2.2.2.2.2,HF2.out.2.szG HG.out.2.2.2 HM.out.2.2.2.2.1,?_,?_,?_,?_⟩
   ·rw [sz4_get _ _ _ _ (by rw [sq4_len];show 4 < 1+4;omega)]
    have:=HF.out.1.sqN
    rw [HV.out.1] at this
    exact this
   ·rw [sz4_get _ _ _ _ (by rw [sq4_len];show 4 < 1+4;omega)]
    have:=HF.out.2.sqN
    rw [HV.out.2.1] at this
    exact this
   ·have:=HF2.out.1.szN
    rw [HV.out.2.2.1,sq4_len] at this
    exact this
   ·have:=HF2.out.2.szN
    rw [HV.out.2.2.2,sq4_len] at this
    exact this
  obtain ⟨ms,ems⟩:∃ ms,(sz4 (sq4 (one1 k x) 0 k x y) 0 k x y)=ms:=⟨_,rfl⟩
  obtain ⟨us,eus⟩:∃ us,(sz4 (sq4 (one1 k y) 0 k y x) 0 k y x)=us:=⟨_,rfl⟩
  rw [ems,eus] at H8 HGG
  clear ems eus HF HF2 HG HV
  go_wp2_with fail
  refine (cvalue_any wr.heap.size tb ms HGG.out.1 4 _ HGG.out.2.2.1 w8 H8.out.t).mono ?_
  rintro e w9 ⟨v9,rfl,h9,hB9⟩
  obtain ⟨s9,t_,rfl,hs9,O9⟩:=h9
  obtain ⟨ps9,ms9,cs9,rfl⟩:=hs9.form_
  obtain ⟨gv9,cv9,rfl,_⟩:=O9.at (by show 0 < 1;omega)
  obtain ⟨V9,eV9⟩:∃ z:Int,A=z:=⟨_,rfl⟩
  have O9:Hid (OwnK .i64 33 w9 w8.heap.size (.slice (some ⟨gv9,0,none⟩) 1 cv9) [V9]):=by rw [← eV9];exact O9
  have H9:Hid (Two w w9 wr.heap.size tb ms w1.heap.size ub us):=H8.out.up hB9
  obtain ⟨bx9,ebx9⟩:∃ z,w9.heap.size=z:=⟨_,rfl⟩
  clear hB9 hs9 H8
  go_wp2_with fail
  generalize hK:World.alloc _ _=K9
  have hL:Below w9.heap.size w9 K9:=by rw [← hK];exact up_alloc w9 _
  have X9:Hid (VBox K9 bx9 V9):=by
   have:=VBox.new (s:=.slice ps9 ms9 cs9) (A:=V9) O9.out
   rw [hK,ebx9] at this
   exact this
  have J9:Hid (Two w K9 wr.heap.size tb ms w1.heap.size ub us):=H9.out.up hL
  (try rw [ebx9])
  clear hK hL ebx9 O9 H9
  refine (cvalue_any w1.heap.size ub us HGG.out.2.1 4 _ HGG.out.2.2.2.1 K9 J9.out.u).mono ?_
  rintro e w10 ⟨v10,rfl,h10,hB10⟩
  obtain ⟨s10,t_,rfl,hs10,O10⟩:=h10
  obtain ⟨ps10,ms10,cs10,rfl⟩:=hs10.form_
  obtain ⟨gv10,cv10,rfl,_⟩:=O10.at (by show 0 < 1;omega)
  obtain ⟨V10,eV10⟩:∃ z:Int,A=z:=⟨_,rfl⟩
  have O10:Hid (OwnK .i64 33 w10 K9.heap.size (.slice (some ⟨gv10,0,none⟩) 1 cv10) [V10]):=by rw [← eV10];exact O10
  have H10:Hid (Two w w10 wr.heap.size tb ms w1.heap.size ub us):=J9.out.up hB10
  obtain ⟨bx10,ebx10⟩:∃ z,w10.heap.size=z:=⟨_,rfl⟩
  have X9:Hid (VBox w10 bx9 V9):=X9.out.up hB10
  clear hB10 hs10 J9
  go_wp2_with fail
  generalize hK:World.alloc _ _=K10
  have hL:Below w10.heap.size w10 K10:=by rw [← hK];exact up_alloc w10 _
  have X10:Hid (VBox K10 bx10 V10):=by
   have:=VBox.new (s:=.slice ps10 ms10 cs10) (A:=V10) O10.out
   rw [hK,ebx10] at this
   exact this
  have J10:Hid (Two w K10 wr.heap.size tb ms w1.heap.size ub us):=H10.out.up hL
  have X9:Hid (VBox K10 bx9 V9):=X9.out.up hL
  (try rw [ebx10])
  clear hK hL ebx10 O10 H10
  refine (cvalue_any wr.heap.size tb ms HGG.out.1 8 _ HGG.out.2.2.2.2.1 K10 J10.out.t).mono ?_
  rintro e w11 ⟨v11,rfl,h11,hB11⟩
  obtain ⟨s11,t_,rfl,hs11,O11⟩:=h11
  obtain ⟨ps11,ms11,cs11,rfl⟩:=hs11.form_
  obtain ⟨gv11,cv11,rfl,_⟩:=O11.at (by show 0 < 1;omega)
  obtain ⟨V11,eV11⟩:∃ z:Int,C=z:=⟨_,rfl⟩
  have O11:Hid (OwnK .i64 33 w11 K10.heap.size (.slice (some ⟨gv11,0,none⟩) 1 cv11) [V11]):=by rw [← eV11];exact O11
  have H11:Hid (Two w w11 wr.heap.size tb ms w1.heap.size ub us):=J10.out.up hB11
  obtain ⟨bx11,ebx11⟩:∃ z,w11.heap.size=z:=⟨_,rfl⟩
  have X9:Hid (VBox w11 bx9 V9):=X9.out.up hB11
  have X10:Hid (VBox w11 bx10 V10):=X10.out.up hB11
  clear hB11 hs11 J10
  go_wp2_with fail
  generalize hK:World.alloc _ _=K11
  have hL:Below w11.heap.size w11 K11:=by rw [← hK];exact up_alloc w11 _
  have X11:Hid (VBox K11 bx11 V11):=by
   have:=VBox.new (s:=.slice ps11 ms11 cs11) (A:=V11) O11.out
   rw [hK,ebx11] at this
   exact this
  have J11:Hid (Two w K11 wr.heap.size tb ms w1.heap.size ub us):=H11.out.up hL
  have X9:Hid (VBox K11 bx9 V9):=X9.out.up hL
  have X10:Hid (VBox K11 bx10 V10):=X10.out.up hL
  (try rw [ebx11])
  clear hK hL ebx11 O11 H11
  refine (cvalue_any w1.heap.size ub us HGG.out.2.1 8 _ HGG.out.2.2.2.2.2 K11 J11.out.u).mono ?_
  rintro e w12 ⟨v12,rfl,h12,hB12⟩
  obtain ⟨s12,t_,rfl,hs12,O12⟩:=h12
  obtain ⟨ps12,ms12,cs12,rfl⟩:=hs12.form_
  obtain ⟨gv12,cv12,rfl,_⟩:=O12.at (by show 0 < 1;omega)
  obtain ⟨V12,eV12⟩:∃ z:Int,C=z:=⟨_,rfl⟩
  have O12:Hid (OwnK .i64 33 w12 K11.heap.size (.slice (some ⟨gv12,0,none⟩) 1 cv12) [V12]):=by rw [← eV12];exact O12
  have H12:Hid (Two w w12 wr.heap.size tb ms w1.heap.size ub us):=J11.out.up hB12
  obtain ⟨bx12,ebx12⟩:∃ z,w12.heap.size=z:=⟨_,rfl⟩
  have X9:Hid (VBox w12 bx9 V9):=X9.out.up hB12
  have X10:Hid (VBox w12 bx10 V10):=X10.out.up hB12
  have X11:Hid (VBox w12 bx11 V11):=X11.out.up hB12
  clear hB12 hs12 J11
  have X12:Hid (VBox (w12.alloc (.cells #[.slice ps12 ms12 cs12,.slice (some ⟨gv12,0,none⟩) 1 cv12] 31)) bx12 V12):=by
   have:=VBox.new (s:=.slice ps12 ms12 cs12) (A:=V12) O12.out
   rw [ebx12] at this
   exact this
  have HB12:Hid (Below w.heap.size w (w12.alloc (.cells #[.slice ps12 ms12 cs12,.slice (some ⟨gv12,0,none⟩) 1 cv12] 31))):=bstep H12.out.b (up_alloc _ _)
  have hL:=up_alloc w12 (.cells #[.slice ps12 ms12 cs12,.slice (some ⟨gv12,0,none⟩) 1 cv12] 31)
  have Y9:=X9.out.up hL
  have Y10:=X10.out.up hL
  have Y11:=X11.out.up hL
  have Y12:=X12.out
  generalize hK:World.alloc w12 (.cells #[.slice ps12 ms12 cs12,.slice (some ⟨gv12,0,none⟩) 1 cv12] 31)=K at Y9 Y10 Y11 Y12 HB12 hL
  subst eV9 eV10 eV11 eV12
  obtain ⟨a9,b9,c9,d9,e9,f9⟩:=Y9.cells
  obtain ⟨a10,b10,c10,d10,e10,f10⟩:=Y10.cells
  obtain ⟨a11,b11,c11,d11,e11,f11⟩:=Y11.cells
  obtain ⟨a12,b12,c12,d12,e12,f12⟩:=Y12.cells
  clear X9 X10 X11 X12 H12 O12 Y9 Y10 Y11 Y12 hL HGG HM HA
  go_upto_region 21 with fail
  (try rw [hK])
  (try rw [ebx12])
  clear hK ebx12
  have kA:decide (0≤A)=true:=decide_eq_true hA0
  have kC:decide (0≤C)=true:=decide_eq_true hC0
  go_quiet (fail)
  go_wp2
  go_ret
  exact ⟨rfl,below_drew HB12.out _⟩
end Go.Proofs.YtpdkkcnmgiihcaaGreatDoor.Wd
