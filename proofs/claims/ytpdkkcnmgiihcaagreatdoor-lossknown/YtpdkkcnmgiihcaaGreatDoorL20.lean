/- LossKnown: what chapter 13 says of a few. -/
import Derived.Test.YtpdkkcnmgiihcaaGreatDoorL19
import Derived.Deep.CutBlock
set_option linter.unusedVariables false
set_option linter.unusedSimpArgs false
set_option maxHeartbeats 16000000
set_option maxRecDepth 16000
namespace Go.Proofs.YtpdkkcnmgiihcaaGreatDoor.Wd
open Go.RowKit Fx
theorem lo_no {e:Int} (h:e≠0) (ns sts:List Nd):loE e ns sts=e∧loR e ns sts=0∧loN e ns sts=ns:=⟨if_neg h,if_neg h,if_neg h⟩
def lk2:List Nd:=[⟨1,-1,-1,0,[2],[12884901888,4294967296]⟩,⟨1,-1,-1,0,[1,2],[1,2]⟩]
theorem lkx:RwP 2 [12884901888,4294967296]:=⟨rfl,by decide,by decide⟩
theorem lkr:RI [12884901888,4294967296]:=RI_kern (by decide +kernel)
theorem lkl:leafR (one1 2 [12884901888,4294967296]) [1,2] [1,2]=1∧leafE (one1 2 [12884901888,4294967296]) [1,2] [1,2]=0∧leafN (one1 2 [12884901888,4294967296]) [1,2] [1,2]=lk2:=by
 have hp:isP [1,2] [1,2]:=by decide +kernel
 obtain ⟨e1,e2,e3⟩:=leaf_ok (ns:=one1 2 [12884901888,4294967296]) (by decide) hp
 exact ⟨e2,e1,e3⟩
theorem lkG:NodesG lk2:=by
 have:=NodesG.leaf (d:=[1,2]) (x:=[1,2]) (one_G lkx lkr) (RI_kern (by decide +kernel))
 rwa [lkl.2.2] at this
theorem lkN:RwN lk2 0 2 [12884901888,4294967296]:=⟨by decide,rfl,rfl⟩
theorem lkF:Fit lk2 0 2 [12884901888,4294967296] [0,0] 4:=⟨lkx,⟨rfl,by decide,by decide⟩,lkN,by decide⟩
def lk6:List Nd:=sz4 lk2 0 2 [12884901888,4294967296] [0,0]
def lk15:List Nd:=hg9 lk6 0 2 1 [12884901888,4294967296]
def lk24:List Nd:=hg9 lk15 0 2 0 [12884901888,4294967296]
theorem lk6_len:lk6.length=6:=sz4_len _ _ _ _ _
theorem lk15_len:lk15.length=15:=(hg9_len _ _ _ _ _).trans (by rw [lk6_len])
theorem RwN.hg {ms:List Nd} {o:Int} {n:Nat} {x:List Int} (h:RwN ms o n x) (o':Int) (n':Nat) (c:Int) (x':List Int):RwN (hg9 ms o' n' c x') o n x:=((((((((h.app _).app _).app _).app _).app _).app _).app _).app _).app _
theorem lk6N:RwN lk6 0 2 [12884901888,4294967296]:=lkN.sz _ _ _ _
theorem lk15N:RwN lk15 0 2 [12884901888,4294967296]:=lk6N.hg _ _ _ _
theorem lk6G:NodesG lk6:=lkF.szG lkG (RI_kern (by decide +kernel))
theorem lk15G:NodesG lk15:=hgG lkx lk6N (by rw [lk6_len];omega) ⟨by decide,by decide⟩ lk6G
theorem lk24G:NodesG lk24:=hgG lkx lk15N (by rw [lk15_len];omega) ⟨by decide,by decide⟩ lk15G
theorem hg9_get {ms:List Nd} (o:Int) (n:Nat) (c:Int) (x:List Int) {i:Nat} (h:i < ms.length):(hg9 ms o n c x)[i]?=ms[i]?:=by
 unfold hg9 hg8 hg6 hg4 hg2
 simp only [List.append_assoc]
 rw [List.getElem?_append_left h]
theorem lk_v:meanI (szV [12884901888,4294967296] [0,0])=8589934592∧Fx.hold (totalI (h8V 2 1 [12884901888,4294967296]))=12884901888∧Fx.hold (totalI (h8V 2 0 [12884901888,4294967296]))=0:=by decide +kernel
theorem lk_at:lk24[5]?=some ⟨10,4,-1,0,[],[8589934592]⟩∧lk24[14]?=some ⟨9,13,-1,0,[],[12884901888]⟩∧lk24[23]?=some ⟨9,22,-1,0,[],[0]⟩:=by
 refine ⟨?_,?_,?_⟩
 ·have h:=lkF.szN
  rw [lk_v.1] at h
  rw [lk24,hg9_get _ _ _ _ (by rw [lk15_len];omega),lk15,hg9_get _ _ _ _ (by rw [lk6_len];omega)]
  exact h
 ·have h:=hg_last lk6 0 2 1 [12884901888,4294967296]
  rw [lk_v.2.1,lk6_len] at h
  rw [lk24,hg9_get _ _ _ _ (by rw [lk15_len];omega)]
  exact h
 ·have h:=hg_last lk15 0 2 0 [12884901888,4294967296]
  rw [lk_v.2.2,lk15_len] at h
  exact h
theorem lknown_walk (w:World) (hT:Hid (Tz w)):
  Calls Tryz.prog 3 #[] w fun e w'=>e = .returned (.bool true)∧Below w.heap.size w w':=by
 haveI:Nonempty World:=⟨w⟩
 go_enter Tryz.func3,Tryz.ntmps3
 go_wp2_with fail
 refine (awake13_any w hT).mono ?_
 rintro e wa ⟨rfl,hBa⟩
 have HBa:Hid (Below w.heap.size w wa):=hBa
 clear hBa
 go_wp2_with fail
 refine (cnew_any wa).mono ?_
 rintro e w1 ⟨tb,rfl,hT1,hB1⟩
 have H1:Hid (TapC w1 wa.heap.size tb ([]:List Nd)∧Below wa.heap.size wa w1):=⟨hT1,hB1⟩
 clear hT1 hB1
 go_wp2_with fail
 generalize hK:World.alloc _ _=K
 have hL:Below w1.heap.size w1 K:=by rw [← hK];exact up_alloc w1 _
 have l2:Nums .i64 K (.slice (some ⟨w1.heap.size,0,none⟩) 2 2) [12884901888,4294967296]:=by rw [← hK];exact nums_lit (k:=.i64) w1 [12884901888,4294967296] 2 (0,0) rfl
 clear hK
 refine (row13_any _ 2 2 [12884901888,4294967296] K l2 (by decide)).mono ?_
 rintro e r2 ⟨g2,rfl,ha2,hb2,_,_,hB2⟩
 go_wp2_with fail
 have cc:=cleaf_any wa.heap.size tb [] NodesG.nil _ _ 1 1 2 2 [2] [12884901888,4294967296] (RI_kern (by decide +kernel)) lkr r2 (H1.out.1.up (bstep hL hB2)) ha2 hb2
 have e1:=one_ok lkx
 rw [show ([((2:Nat):Int)]:List Int) = [2] from rfl] at e1
 rw [e1.1,e1.2.1,e1.2.2] at cc
 refine cc.mono ?_
 rintro e w2 ⟨rfl,hT',hC',_⟩
 have H2:Hid (TapC w2 wa.heap.size tb (one1 2 [12884901888,4294967296])∧Below wa.heap.size wa w2):=⟨hT',(bstep H1.out.2 (bstep hL hB2)).trans hC'⟩
 clear cc hT' hC' hL l2 ha2 hb2 hB2 H1 e1
 go_wp2_with fail
 generalize hK:World.alloc (World.alloc _ _) _=K
 have hL:Below w2.heap.size w2 K:=by rw [← hK];go_grown
 have l1:Nums .i64 K (.slice (some ⟨w2.heap.size,0,none⟩) 2 2) [1,2]:=by rw [← hK];exact (nums_lit (k:=.i64) w2 [1,2] 2 (0,0) rfl).up (up_alloc _ _)
 have l2:Nums .i64 K (.slice (some ⟨w2.heap.size+1,0,none⟩) 2 2) [1,2]:=by
  have:=nums_lit (k:=.i64) (e:=33) (w2.alloc (.cells (vals .i64 [1,2]).toArray 3)) [1,2] 2 (0,0) rfl
  rw [size_alloc] at this
  rw [← hK]
  exact this
 clear hK
 have cc:=cleaf_any wa.heap.size tb (one1 2 [12884901888,4294967296]) (one_G lkx lkr) _ _ 2 2 2 2 [1,2] [1,2] (RI_kern (by decide +kernel)) (RI_kern (by decide +kernel)) K (H2.out.1.up hL) l1 l2
 rw [lkl.1,lkl.2.1,lkl.2.2] at cc
 refine cc.mono ?_
 rintro e w3 ⟨rfl,hT',hC',_⟩
 have H3:Hid (TapC w3 wa.heap.size tb lk2∧Below wa.heap.size wa w3):=⟨hT',(bstep H2.out.2 hL).trans hC'⟩
 clear cc hT' hC' hL l1 l2 H2
 go_wp2_with fail
 have cc:=csquare_any wa.heap.size tb lk2 lkG (by decide) 9 none 0 0 [] RI_nil w3 H3.out.1 (show Hid _ from fun W hW=>hT.out.up (HBa.out.trans ((H3.out.2.trans hW).mono HBa.out.size))) (KeptL.nil _ _)
 rw [show fitE lk2 9 []=1 by decide +kernel,(lo_no (e:=1) (by decide) lk2 _).1,(lo_no (e:=1) (by decide) lk2 _).2.1,(lo_no (e:=1) (by decide) lk2 _).2.2] at cc
 refine cc.mono ?_
 rintro e w4 ⟨rfl,hT',hC',_⟩
 have H4:Hid (TapC w4 wa.heap.size tb lk2∧Below wa.heap.size wa w4):=⟨hT',H3.out.2.trans hC'⟩
 clear cc hT' hC' H3
 go_wp2_with fail
 generalize hK:World.alloc _ _=K
 have hL:Below w4.heap.size w4 K:=by rw [← hK];exact up_alloc w4 _
 have l2:OwnK .i64 33 K w4.heap.size (.slice (some ⟨w4.heap.size,0,none⟩) 1 1) [1]:=by rw [← hK];exact own_lit (k:=.i64) w4 [1] 1 rfl (by decide)
 have hbK:Below wa.heap.size wa K:=bstep H4.out.2 hL
 clear hK
 have cc:=csize_any wa.heap.size tb lk2 lkG (by decide) 0 _ 1 1 [1] (RI_kern (by decide +kernel)) K (H4.out.1.up hL) (show Hid _ from fun W hW=>hT.out.up (HBa.out.trans ((hbK.trans hW).mono HBa.out.size))) (l2.keptL (by decide))
 rw [show fitE lk2 0 [1]=1 by decide +kernel,(lo_no (e:=1) (by decide) lk2 _).1,(lo_no (e:=1) (by decide) lk2 _).2.1,(lo_no (e:=1) (by decide) lk2 _).2.2] at cc
 refine cc.mono ?_
 rintro e w5 ⟨rfl,hT',hC',_⟩
 have H5:Hid (TapC w5 wa.heap.size tb lk2∧Below wa.heap.size wa w5):=⟨hT',hbK.trans hC'⟩
 clear cc hbK hL l2 hT' hC' H4
 go_wp2_with fail
 generalize hK:World.alloc _ _=K
 have hL:Below w5.heap.size w5 K:=by rw [← hK];exact up_alloc w5 _
 have l2:OwnK .i64 33 K w5.heap.size (.slice (some ⟨w5.heap.size,0,none⟩) 2 2) [1,2]:=by rw [← hK];exact own_lit (k:=.i64) w5 [1,2] 2 rfl (by decide)
 have hbK:Below wa.heap.size wa K:=bstep H5.out.2 hL
 clear hK
 have cc:=csquare_any wa.heap.size tb lk2 lkG (by decide) 1 _ 2 2 [1,2] (RI_kern (by decide +kernel)) K (H5.out.1.up hL) (show Hid _ from fun W hW=>hT.out.up (HBa.out.trans ((hbK.trans hW).mono HBa.out.size))) (l2.keptL (by decide))
 rw [show fitE lk2 1 [1,2]=4 by decide +kernel,(lo_no (e:=4) (by decide) lk2 _).1,(lo_no (e:=4) (by decide) lk2 _).2.1,(lo_no (e:=4) (by decide) lk2 _).2.2] at cc
 refine cc.mono ?_
 rintro e w6 ⟨rfl,hT',hC',_⟩
 have H6:Hid (TapC w6 wa.heap.size tb lk2∧Below wa.heap.size wa w6):=⟨hT',hbK.trans hC'⟩
 clear cc hbK hL l2 hT' hC' H5
 go_wp2_with fail
 have cc:=chinge_any wa.heap.size tb lk2 lkG (by decide) 0 2 w6 H6.out.1 (show Hid _ from fun W hW=>hT.out.up (HBa.out.trans ((H6.out.2.trans hW).mono HBa.out.size)))
 rw [show plcE lk2 0 2=4 by decide +kernel,(lo_no (e:=4) (by decide) lk2 _).1,(lo_no (e:=4) (by decide) lk2 _).2.1,(lo_no (e:=4) (by decide) lk2 _).2.2] at cc
 refine cc.mono ?_
 rintro e w7 ⟨rfl,hT',hC',_⟩
 have H7:Hid (TapC w7 wa.heap.size tb lk2∧Below wa.heap.size wa w7):=⟨hT',H6.out.2.trans hC'⟩
 clear cc hT' hC' H6
 go_wp2_with fail
 have cc:=chinge_any wa.heap.size tb lk2 lkG (by decide) (-1) 0 w7 H7.out.1 (show Hid _ from fun W hW=>hT.out.up (HBa.out.trans ((H7.out.2.trans hW).mono HBa.out.size)))
 rw [show plcE lk2 (-1) 0=1 by decide +kernel,(lo_no (e:=1) (by decide) lk2 _).1,(lo_no (e:=1) (by decide) lk2 _).2.1,(lo_no (e:=1) (by decide) lk2 _).2.2] at cc
 refine cc.mono ?_
 rintro e w8 ⟨rfl,hT',hC',_⟩
 have H8:Hid (TapC w8 wa.heap.size tb lk2∧Below wa.heap.size wa w8):=⟨hT',H7.out.2.trans hC'⟩
 clear cc hT' hC' H7
 go_wp2_with fail
 generalize hK:World.alloc _ _=K
 have hL:Below w8.heap.size w8 K:=by rw [← hK];exact up_alloc w8 _
 have l2:OwnK .i64 33 K w8.heap.size (.slice (some ⟨w8.heap.size,0,none⟩) 2 2) [0,0]:=by rw [← hK];exact own_lit (k:=.i64) w8 [0,0] 2 rfl (by decide)
 have hbK:Below wa.heap.size wa K:=bstep H8.out.2 hL
 clear hK
 have cc:=csize_any wa.heap.size tb lk2 lkG (by decide) 0 _ 2 2 [0,0] (RI_kern (by decide +kernel)) K (H8.out.1.up hL) (show Hid _ from fun W hW=>hT.out.up (HBa.out.trans ((hbK.trans hW).mono HBa.out.size))) (l2.keptL (by decide))
 rw [lkF.size.1,lkF.size.2.1,lkF.size.2.2,show ((lk2.length:Nat):Int)+3=5 from rfl] at cc
 refine cc.mono ?_
 rintro e w9 ⟨rfl,hT',hC',_⟩
 have H9:Hid (TapC w9 wa.heap.size tb lk6∧Below wa.heap.size wa w9):=⟨hT',hbK.trans hC'⟩
 clear cc hbK hL l2 hT' hC' H8
 go_wp2_with fail
 have cc:=chinge_any wa.heap.size tb lk6 lk6G (by rw [lk6_len];omega) 0 1 w9 H9.out.1 (show Hid _ from fun W hW=>hT.out.up (HBa.out.trans ((H9.out.2.trans hW).mono HBa.out.size)))
 rw [(hinge_ok (c:=1) lkx lk6N (by rw [lk6_len];omega) ⟨by decide,by decide⟩).1,(hinge_ok (c:=1) lkx lk6N (by rw [lk6_len];omega) ⟨by decide,by decide⟩).2.1,(hinge_ok (c:=1) lkx lk6N (by rw [lk6_len];omega) ⟨by decide,by decide⟩).2.2,show ((lk6.length:Nat):Int)+8=14 by rw [lk6_len];rfl] at cc
 refine cc.mono ?_
 rintro e w10 ⟨rfl,hT',hC',_⟩
 have H10:Hid (TapC w10 wa.heap.size tb lk15∧Below wa.heap.size wa w10):=⟨hT',H9.out.2.trans hC'⟩
 clear cc hT' hC' H9
 go_wp2_with fail
 have cc:=chinge_any wa.heap.size tb lk15 lk15G (by rw [lk15_len];omega) 0 0 w10 H10.out.1 (show Hid _ from fun W hW=>hT.out.up (HBa.out.trans ((H10.out.2.trans hW).mono HBa.out.size)))
 rw [(hinge_ok (c:=0) lkx lk15N (by rw [lk15_len];omega) ⟨by decide,by decide⟩).1,(hinge_ok (c:=0) lkx lk15N (by rw [lk15_len];omega) ⟨by decide,by decide⟩).2.1,(hinge_ok (c:=0) lkx lk15N (by rw [lk15_len];omega) ⟨by decide,by decide⟩).2.2,show ((lk15.length:Nat):Int)+8=23 by rw [lk15_len];rfl] at cc
 refine cc.mono ?_
 rintro e w11 ⟨rfl,hT',hC',_⟩
 have H11:Hid (TapC w11 wa.heap.size tb lk24∧Below wa.heap.size wa w11):=⟨hT',H10.out.2.trans hC'⟩
 clear cc hT' hC' H10
 go_wp2_with fail
 refine (cvalue_any wa.heap.size tb lk24 lk24G 5 _ lk_at.1 w11 H11.out.1).mono ?_
 rintro e w12 ⟨v12,rfl,h12,hB12⟩
 obtain ⟨s12,t_,rfl,hs12,O12⟩:=h12
 obtain ⟨ps12,ms12,cs12,rfl⟩:=hs12.form_
 obtain ⟨gv12,cv12,rfl,_⟩:=O12.at (by show 0 < 1;omega)
 have O12:Hid (OwnK .i64 33 w12 w11.heap.size (.slice (some ⟨gv12,0,none⟩) 1 cv12) [8589934592]):=O12
 have H12:Hid (TapC w12 wa.heap.size tb lk24∧Below wa.heap.size wa w12):=⟨H11.out.1.up hB12,bstep H11.out.2 hB12⟩
 obtain ⟨bx12,ebx12⟩:∃ z,w12.heap.size=z:=⟨_,rfl⟩
 clear hB12 hs12 H11
 go_wp2_with fail
 generalize hK:World.alloc _ _=K12
 have hL:Below w12.heap.size w12 K12:=by rw [← hK];exact up_alloc w12 _
 have X12:Hid (VBox K12 bx12 8589934592):=by
  have:=VBox.new (s:=.slice ps12 ms12 cs12) (A:=8589934592) O12.out
  rw [hK,ebx12] at this
  exact this
 have J12:Hid (TapC K12 wa.heap.size tb lk24∧Below wa.heap.size wa K12):=⟨H12.out.1.up hL,bstep H12.out.2 hL⟩
 (try rw [ebx12])
 clear hK hL ebx12 O12 H12
 refine (cvalue_any wa.heap.size tb lk24 lk24G 14 _ lk_at.2.1 K12 J12.out.1).mono ?_
 rintro e w13 ⟨v13,rfl,h13,hB13⟩
 obtain ⟨s13,t_,rfl,hs13,O13⟩:=h13
 obtain ⟨ps13,ms13,cs13,rfl⟩:=hs13.form_
 obtain ⟨gv13,cv13,rfl,_⟩:=O13.at (by show 0 < 1;omega)
 have O13:Hid (OwnK .i64 33 w13 K12.heap.size (.slice (some ⟨gv13,0,none⟩) 1 cv13) [12884901888]):=O13
 have H13:Hid (TapC w13 wa.heap.size tb lk24∧Below wa.heap.size wa w13):=⟨J12.out.1.up hB13,bstep J12.out.2 hB13⟩
 obtain ⟨bx13,ebx13⟩:∃ z,w13.heap.size=z:=⟨_,rfl⟩
 have X12:Hid (VBox w13 bx12 8589934592):=X12.out.up hB13
 clear hB13 hs13 J12
 go_wp2_with fail
 generalize hK:World.alloc _ _=K13
 have hL:Below w13.heap.size w13 K13:=by rw [← hK];exact up_alloc w13 _
 have X13:Hid (VBox K13 bx13 12884901888):=by
  have:=VBox.new (s:=.slice ps13 ms13 cs13) (A:=12884901888) O13.out
  rw [hK,ebx13] at this
  exact this
 have J13:Hid (TapC K13 wa.heap.size tb lk24∧Below wa.heap.size wa K13):=⟨H13.out.1.up hL,bstep H13.out.2 hL⟩
 have X12:Hid (VBox K13 bx12 8589934592):=X12.out.up hL
 (try rw [ebx13])
 clear hK hL ebx13 O13 H13
 refine (cvalue_any wa.heap.size tb lk24 lk24G 23 _ lk_at.2.2 K13 J13.out.1).mono ?_
 rintro e w14 ⟨v14,rfl,h14,hB14⟩
 obtain ⟨s14,t_,rfl,hs14,O14⟩:=h14
 obtain ⟨ps14,ms14,cs14,rfl⟩:=hs14.form_
 obtain ⟨gv14,cv14,rfl,_⟩:=O14.at (by show 0 < 1;omega)
 have O14:Hid (OwnK .i64 33 w14 K13.heap.size (.slice (some ⟨gv14,0,none⟩) 1 cv14) [0]):=O14
 have H14:Hid (TapC w14 wa.heap.size tb lk24∧Below wa.heap.size wa w14):=⟨J13.out.1.up hB14,bstep J13.out.2 hB14⟩
 obtain ⟨bx14,ebx14⟩:∃ z,w14.heap.size=z:=⟨_,rfl⟩
 have X12:Hid (VBox w14 bx12 8589934592):=X12.out.up hB14
 have X13:Hid (VBox w14 bx13 12884901888):=X13.out.up hB14
 clear hB14 hs14 J13
 have X14:Hid (VBox (w14.alloc (.cells #[.slice ps14 ms14 cs14,.slice (some ⟨gv14,0,none⟩) 1 cv14] 31)) bx14 0):=by
  have:=VBox.new (s:=.slice ps14 ms14 cs14) (A:=0) O14.out
  rw [ebx14] at this
  exact this
 have hL:=up_alloc w14 (.cells #[.slice ps14 ms14 cs14,.slice (some ⟨gv14,0,none⟩) 1 cv14] 31)
 have HB:Hid (Below w.heap.size w (w14.alloc (.cells #[.slice ps14 ms14 cs14,.slice (some ⟨gv14,0,none⟩) 1 cv14] 31))):=bstep HBa.out (bstep H14.out.2 hL)
 have Y12:=X12.out.up hL
 have Y13:=X13.out.up hL
 have Y14:=X14.out
 generalize hK:World.alloc w14 (.cells #[.slice ps14 ms14 cs14,.slice (some ⟨gv14,0,none⟩) 1 cv14] 31)=K at Y12 Y13 Y14 HB hL
 obtain ⟨a12,b12,c12,d12,e12,f12⟩:=Y12.cells
 obtain ⟨a13,b13,c13,d13,e13,f13⟩:=Y13.cells
 obtain ⟨a14,b14,c14,d14,e14,f14⟩:=Y14.cells
 clear X12 X13 X14 Y12 Y13 Y14 H14 O14 hL
 go_upto_region 17 with fail
 (try rw [hK])
 (try rw [ebx14])
 clear hK ebx14
 go_wp2
 go_ret
 exact ⟨rfl,HB.out⟩
end Go.Proofs.YtpdkkcnmgiihcaaGreatDoor.Wd
