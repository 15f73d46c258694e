/- BackKnown: what the chapter says of a few. -/
import Derived.Test.YtaiigfhicaelkaaGreatDoorV21
import Derived.Test.YtaiigfhicaelkaaGreatDoorV25
set_option linter.unusedVariables false
set_option linter.unusedSimpArgs false
set_option maxHeartbeats 16000000
set_option maxRecDepth 16000
namespace Go.Proofs.YtaiigfhicaelkaaGreatDoor.Wd
open Go.RowKit Fx
theorem kn1:leafR ([]:List Nd) [2] [1,2]=0∧leafE ([]:List Nd) [2] [1,2]=0∧leafN ([]:List Nd) [2] [1,2]=([⟨1,-1,-1,0,[2],[1,2]⟩]:List Nd):=⟨by decide +kernel,by decide +kernel,if_pos ⟨by decide +kernel,by decide +kernel⟩⟩
theorem kn2:doR ([⟨1,-1,-1,0,[2],[1,2]⟩]:List Nd) 9 0 (-1) 0=1∧doE ([⟨1,-1,-1,0,[2],[1,2]⟩]:List Nd) 9 0 (-1) 0=0∧doN ([⟨1,-1,-1,0,[2],[1,2]⟩]:List Nd) 9 0 (-1) 0=([⟨1,-1,-1,0,[2],[1,2]⟩,⟨9,0,-1,0,[],[3]⟩]:List Nd):=by
 have h0:doP ([⟨1,-1,-1,0,[2],[1,2]⟩]:List Nd) 9 0 (-1) 0:=by decide +kernel
 refine ⟨if_pos h0,by decide +kernel,(if_pos h0).trans ?_⟩
 have h2:rkV 9 [2] [1,2] [] [] 0 = [3]:=by decide +kernel
 show ([⟨1,-1,-1,0,[2],[1,2]⟩]:List Nd)++[⟨9,0,-1,0,[],rkV 9 [2] [1,2] [] [] 0⟩]=_
 rw [h2]
 rfl
theorem kn3:leafR ([⟨1,-1,-1,0,[2],[1,2]⟩,⟨9,0,-1,0,[],[3]⟩]:List Nd) [1] [7]=2∧leafE ([⟨1,-1,-1,0,[2],[1,2]⟩,⟨9,0,-1,0,[],[3]⟩]:List Nd) [1] [7]=0∧leafN ([⟨1,-1,-1,0,[2],[1,2]⟩,⟨9,0,-1,0,[],[3]⟩]:List Nd) [1] [7]=([⟨1,-1,-1,0,[2],[1,2]⟩,⟨9,0,-1,0,[],[3]⟩,⟨1,-1,-1,0,[1],[7]⟩]:List Nd):=⟨by decide +kernel,by decide +kernel,if_pos ⟨by decide +kernel,by decide +kernel⟩⟩
theorem ks1:swE ([⟨1,-1,-1,0,[2],[1,2]⟩]:List Nd) 0=4∧swL ([⟨1,-1,-1,0,[2],[1,2]⟩]:List Nd) 0 = []:=⟨by decide +kernel,by decide +kernel⟩
theorem ks2:swE ([⟨1,-1,-1,0,[2],[1,2]⟩]:List Nd) 1=1∧swL ([⟨1,-1,-1,0,[2],[1,2]⟩]:List Nd) 1 = []:=⟨by decide +kernel,by decide +kernel⟩
theorem ks3:swE ([⟨1,-1,-1,0,[2],[1,2]⟩,⟨9,0,-1,0,[],[3]⟩,⟨1,-1,-1,0,[1],[7]⟩]:List Nd) 2=0∧swL ([⟨1,-1,-1,0,[2],[1,2]⟩,⟨9,0,-1,0,[],[3]⟩,⟨1,-1,-1,0,[1],[7]⟩]:List Nd) 2=([([2],[0,0]),([],[0]),([1],[4294967296])]:List Ten):=⟨by decide +kernel,by decide +kernel⟩
theorem ks4:swE ([⟨1,-1,-1,0,[2],[1,2]⟩,⟨9,0,-1,0,[],[3]⟩,⟨1,-1,-1,0,[1],[7]⟩]:List Nd) 1=0∧swL ([⟨1,-1,-1,0,[2],[1,2]⟩,⟨9,0,-1,0,[],[3]⟩,⟨1,-1,-1,0,[1],[7]⟩]:List Nd) 1=([([2],[4294967296,4294967296]),([],[4294967296])]:List Ten):=⟨by decide +kernel,by decide +kernel⟩
theorem ko1:oneE ([⟨1,-1,-1,0,[2],[1,2]⟩,⟨9,0,-1,0,[],[3]⟩,⟨1,-1,-1,0,[1],[7]⟩]:List Nd) 1 ([1],[1])=1∧oneA ([⟨1,-1,-1,0,[2],[1,2]⟩,⟨9,0,-1,0,[],[3]⟩,⟨1,-1,-1,0,[1],[7]⟩]:List Nd) 1 ([1],[1])=([],[])∧oneB ([⟨1,-1,-1,0,[2],[1,2]⟩,⟨9,0,-1,0,[],[3]⟩,⟨1,-1,-1,0,[1],[7]⟩]:List Nd) 1 ([1],[1])=([],[]):=⟨by decide +kernel,by decide +kernel,by decide +kernel⟩
theorem ko2:oneE ([⟨1,-1,-1,0,[2],[1,2]⟩,⟨9,0,-1,0,[],[3]⟩,⟨1,-1,-1,0,[1],[7]⟩]:List Nd) 1 ([],[5])=0∧oneA ([⟨1,-1,-1,0,[2],[1,2]⟩,⟨9,0,-1,0,[],[3]⟩,⟨1,-1,-1,0,[1],[7]⟩]:List Nd) 1 ([],[5])=([2],[5,5])∧oneB ([⟨1,-1,-1,0,[2],[1,2]⟩,⟨9,0,-1,0,[],[3]⟩,⟨1,-1,-1,0,[1],[7]⟩]:List Nd) 1 ([],[5])=([],[]):=⟨by decide +kernel,by decide +kernel,by decide +kernel⟩
theorem kg1:NodesG ([⟨1,-1,-1,0,[2],[1,2]⟩]:List Nd)∧NodesV ([⟨1,-1,-1,0,[2],[1,2]⟩]:List Nd):=by
 have h1:=NodesG.leaf (d:=[2]) (x:=[1,2]) NodesG.nil (RI_kern (by decide +kernel))
 have h2:=NodesV.leaf (d:=[2]) (x:=[1,2]) NodesV.nil
 rw [kn1.2.2] at h1 h2
 exact ⟨h1,h2⟩
theorem kg2:NodesG ([⟨1,-1,-1,0,[2],[1,2]⟩,⟨9,0,-1,0,[],[3]⟩]:List Nd)∧NodesV ([⟨1,-1,-1,0,[2],[1,2]⟩,⟨9,0,-1,0,[],[3]⟩]:List Nd):=by
 have h1:=NodesG.do (op:=9) (a:=0) (b:=-1) (k:=0) kg1.1
 have h2:=NodesV.do (op:=9) (a:=0) (b:=-1) (k:=0) kg1.2
 rw [kn2.2.2] at h1 h2
 exact ⟨h1,h2⟩
theorem kg3:NodesG ([⟨1,-1,-1,0,[2],[1,2]⟩,⟨9,0,-1,0,[],[3]⟩,⟨1,-1,-1,0,[1],[7]⟩]:List Nd)∧NodesV ([⟨1,-1,-1,0,[2],[1,2]⟩,⟨9,0,-1,0,[],[3]⟩,⟨1,-1,-1,0,[1],[7]⟩]:List Nd):=by
 have h1:=NodesG.leaf (d:=[1]) (x:=[7]) kg2.1 (RI_kern (by decide +kernel))
 have h2:=NodesV.leaf (d:=[1]) (x:=[7]) kg2.2
 rw [kn3.2.2] at h1 h2
 exact ⟨h1,h2⟩
theorem kk1:NodesK ([⟨1,-1,-1,0,[2],[1,2]⟩]:List Nd):=NodesK.of (by decide +kernel)
theorem kk3:NodesK ([⟨1,-1,-1,0,[2],[1,2]⟩,⟨9,0,-1,0,[],[3]⟩,⟨1,-1,-1,0,[1],[7]⟩]:List Nd):=NodesK.of (by decide +kernel)
/-- An empty row. -/
theorem own_none {k:IntKind} {e:TypeId} {W:World} {B:Nat} {v:Value} (h:OwnK k e W B v []):∃ p c,v = .slice p 0 c:=by
 obtain ⟨p,c,rfl,_⟩:=h.nums.view
 exact ⟨p,c,rfl⟩
theorem bknown_walk (w:World) (hT:Hid (Tz w)):
  Calls Tryz.prog 3 #[] w fun e w'=>e = .returned (.bool true)∧Below w.heap.size w w':=by
 haveI:Nonempty World:=⟨w⟩
 go_enter Tryz.func3,Tryz.ntmps3
 go_wp2_with fail
 refine (awake11_any w hT).mono ?_
 rintro e wa ⟨rfl,hBa⟩
 have HB_wa:Hid (Below w.heap.size w wa):=hBa
 clear hBa
 go_wp2_with fail
 refine (cnew_any wa).mono ?_
 rintro e w1 ⟨tb,rfl,hT1,hB1⟩
 have HT1:Hid (TapC w1 wa.heap.size tb []∧Below w.heap.size w w1):=⟨hT1,bstep HB_wa.out hB1⟩
 clear hT1 hB1
 go_wp2_with fail
 generalize hK:World.alloc _ _=K
 have hL:Below w1.heap.size w1 K:=by rw [← hK];exact up_alloc _ _
 have l2:Nums .i64 K (.slice (some ⟨w1.heap.size,0,none⟩) 2 2) [1,2]:=by rw [← hK];exact nums_lit (k:=.i64) w1 [1,2] 2 (0,0) rfl
 clear hK
 refine (row11_any _ 2 2 [1,2] K l2 (by decide)).mono ?_
 rintro e r2 ⟨g2,rfl,ha,hb,_,_,hB⟩
 go_wp2_with fail
 have cc:=cleaf_any wa.heap.size tb [] NodesG.nil _ _ 1 1 2 2 [2] [1,2] (RI_kern (by decide +kernel)) (RI_kern (by decide +kernel)) r2 (HT1.out.1.up (bstep hL hB)) ha hb
 rw [kn1.1,kn1.2.1,kn1.2.2] at cc
 refine cc.mono ?_
 rintro e w2 ⟨rfl,hT',hC',_⟩
 have HT2:Hid (TapC w2 wa.heap.size tb ([⟨1,-1,-1,0,[2],[1,2]⟩]:List Nd)∧Below w.heap.size w w2):=⟨hT',(bstep HT1.out.2 (bstep hL hB)).trans (hC'.mono HB_wa.out.size)⟩
 clear cc hT' hC' hB ha hb l2 hL HT1
 go_wp2_with fail
 have cc:=csweep_any wa.heap.size tb ([⟨1,-1,-1,0,[2],[1,2]⟩]:List Nd) kg1.1 kg1.2 kk1 (by decide) 0 w2 HT2.out.1 (Hid.up_tz hT HT2.out.2)
 rw [ks1.1,ks1.2] at cc
 refine cc.mono ?_
 rintro e w3 ⟨v3,rfl,hO3,hB⟩
 obtain ⟨p3,c3,rfl,hc3⟩:=hO3.form
 simp only [List.length_cons,List.length_nil,Nat.zero_add,Nat.reduceAdd] at hc3 ⊢
 have HT3:Hid (TapC w3 wa.heap.size tb ([⟨1,-1,-1,0,[2],[1,2]⟩]:List Nd)∧Below w.heap.size w w3):=⟨HT2.out.1.up hB,bstep HT2.out.2 hB⟩
 clear hO3 hc3
 clear cc hB HT2
 go_wp2_with fail
 have cc:=csweep_any wa.heap.size tb ([⟨1,-1,-1,0,[2],[1,2]⟩]:List Nd) kg1.1 kg1.2 kk1 (by decide) 1 w3 HT3.out.1 (Hid.up_tz hT HT3.out.2)
 rw [ks2.1,ks2.2] at cc
 refine cc.mono ?_
 rintro e w4 ⟨v4,rfl,hO4,hB⟩
 obtain ⟨p4,c4,rfl,hc4⟩:=hO4.form
 simp only [List.length_cons,List.length_nil,Nat.zero_add,Nat.reduceAdd] at hc4 ⊢
 have HT4:Hid (TapC w4 wa.heap.size tb ([⟨1,-1,-1,0,[2],[1,2]⟩]:List Nd)∧Below w.heap.size w w4):=⟨HT3.out.1.up hB,bstep HT3.out.2 hB⟩
 clear hO4 hc4
 clear cc hB HT3
 go_wp2_with fail
 have cc:=cdo_any wa.heap.size tb ([⟨1,-1,-1,0,[2],[1,2]⟩]:List Nd) kg1.1 9 0 (-1) 0 (by unfold InR;omega) w4 HT4.out.1 (Hid.up_tz hT HT4.out.2)
 rw [kn2.1,kn2.2.1,kn2.2.2] at cc
 refine cc.mono ?_
 rintro e w5 ⟨rfl,hT',hC',_⟩
 have HT5:Hid (TapC w5 wa.heap.size tb ([⟨1,-1,-1,0,[2],[1,2]⟩,⟨9,0,-1,0,[],[3]⟩]:List Nd)∧Below w.heap.size w w5):=⟨hT',HT4.out.2.trans (hC'.mono HB_wa.out.size)⟩
 clear cc hT' hC' HT4
 go_wp2_with fail
 generalize hK:World.alloc _ _=K
 have hL:Below w5.heap.size w5 K:=by rw [← hK];exact up_alloc _ _
 have l2:Nums .i64 K (.slice (some ⟨w5.heap.size,0,none⟩) 1 1) [7]:=by rw [← hK];exact nums_lit (k:=.i64) w5 [7] 1 (0,0) rfl
 clear hK
 refine (row11_any _ 1 1 [7] K l2 (by decide)).mono ?_
 rintro e r6 ⟨g6,rfl,ha,hb,_,_,hB⟩
 go_wp2_with fail
 have cc:=cleaf_any wa.heap.size tb ([⟨1,-1,-1,0,[2],[1,2]⟩,⟨9,0,-1,0,[],[3]⟩]:List Nd) kg2.1 _ _ 1 1 1 1 [1] [7] (RI_kern (by decide +kernel)) (RI_kern (by decide +kernel)) r6 (HT5.out.1.up (bstep hL hB)) ha hb
 rw [kn3.1,kn3.2.1,kn3.2.2] at cc
 refine cc.mono ?_
 rintro e w6 ⟨rfl,hT',hC',_⟩
 have HT6:Hid (TapC w6 wa.heap.size tb ([⟨1,-1,-1,0,[2],[1,2]⟩,⟨9,0,-1,0,[],[3]⟩,⟨1,-1,-1,0,[1],[7]⟩]:List Nd)∧Below w.heap.size w w6):=⟨hT',(bstep HT5.out.2 (bstep hL hB)).trans (hC'.mono HB_wa.out.size)⟩
 clear cc hT' hC' hB ha hb l2 hL HT5
 go_wp2_with fail
 have cc:=csweep_any wa.heap.size tb ([⟨1,-1,-1,0,[2],[1,2]⟩,⟨9,0,-1,0,[],[3]⟩,⟨1,-1,-1,0,[1],[7]⟩]:List Nd) kg3.1 kg3.2 kk3 (by decide) 2 w6 HT6.out.1 (Hid.up_tz hT HT6.out.2)
 rw [ks3.1,ks3.2] at cc
 refine cc.mono ?_
 rintro e w7 ⟨v7,rfl,hO7,hB⟩
 obtain ⟨p7,c7,rfl,hc7⟩:=hO7.form
 simp only [List.length_cons,List.length_nil,Nat.zero_add,Nat.reduceAdd] at hc7 ⊢
 have HT7:Hid (TapC w7 wa.heap.size tb ([⟨1,-1,-1,0,[2],[1,2]⟩,⟨9,0,-1,0,[],[3]⟩,⟨1,-1,-1,0,[1],[7]⟩]:List Nd)∧Below w.heap.size w w7):=⟨HT6.out.1.up hB,bstep HT6.out.2 hB⟩
 have HO7:Hid (OwnTs w7 w6.heap.size (.slice p7 3 c7) ([([2],[0,0]),([],[0]),([1],[4294967296])]:List Ten)):=hO7
 clear hO7
 clear cc hB HT6
 go_wp2_with fail
 have cc:=csweep_any wa.heap.size tb ([⟨1,-1,-1,0,[2],[1,2]⟩,⟨9,0,-1,0,[],[3]⟩,⟨1,-1,-1,0,[1],[7]⟩]:List Nd) kg3.1 kg3.2 kk3 (by decide) 1 w7 HT7.out.1 (Hid.up_tz hT HT7.out.2)
 rw [ks4.1,ks4.2] at cc
 refine cc.mono ?_
 rintro e w8 ⟨v8,rfl,hO8,hB⟩
 obtain ⟨p8,c8,rfl,hc8⟩:=hO8.form
 simp only [List.length_cons,List.length_nil,Nat.zero_add,Nat.reduceAdd] at hc8 ⊢
 have HT8:Hid (TapC w8 wa.heap.size tb ([⟨1,-1,-1,0,[2],[1,2]⟩,⟨9,0,-1,0,[],[3]⟩,⟨1,-1,-1,0,[1],[7]⟩]:List Nd)∧Below w.heap.size w w8):=⟨HT7.out.1.up hB,bstep HT7.out.2 hB⟩
 have HO8:Hid (OwnTs w8 w7.heap.size (.slice p8 2 c8) ([([2],[4294967296,4294967296]),([],[4294967296])]:List Ten)∧OwnTs w8 w6.heap.size (.slice p7 3 c7) ([([2],[0,0]),([],[0]),([1],[4294967296])]:List Ten)):=⟨hO8,HO7.out.up hB⟩
 clear hO8 HO7
 clear cc hB HT7
 go_wp2_with fail
 generalize hK:World.alloc _ _=K
 have hL:Below w8.heap.size w8 K:=by rw [← hK];exact up_alloc _ _
 have l2:Nums .i64 K (.slice (some ⟨w8.heap.size,0,none⟩) 1 1) [1]:=by rw [← hK];exact nums_lit (k:=.i64) w8 [1] 1 (0,0) rfl
 clear hK
 refine (row11_any _ 1 1 [1] K l2 (by decide)).mono ?_
 rintro e r9 ⟨g9,rfl,ha,hb,_,_,hB⟩
 have hB9:=bstep hL hB
 go_wp2_with fail
 have cc:=cone_any wa.heap.size tb ([⟨1,-1,-1,0,[2],[1,2]⟩,⟨9,0,-1,0,[],[3]⟩,⟨1,-1,-1,0,[1],[7]⟩]:List Nd) kg3.1 kg3.2 kk3 1 _ _ 1 1 1 1 ([1],[1]) (RI_kern (by decide +kernel)) (RI_kern (by decide +kernel)) r9 (HT8.out.1.up hB9) (Hid.up_tz hT (bstep HT8.out.2 hB9)) ha hb (by decide)
 rw [ko1.1,ko1.2.1,ko1.2.2] at cc
 refine cc.mono ?_
 rintro e w9 ⟨u9,v9,rfl,⟨s1,t1,rfl,hs1,ht1⟩,⟨s2,t2,rfl,hs2,ht2⟩,hB'⟩
 obtain ⟨pa,ca,rfl⟩:=own_none hs1
 obtain ⟨pb,cb,rfl⟩:=own_none ht1
 obtain ⟨pc,cc_,rfl⟩:=own_none hs2
 obtain ⟨pd,cd,rfl⟩:=own_none ht2
 have HT9:Hid ((TapC w9 wa.heap.size tb ([⟨1,-1,-1,0,[2],[1,2]⟩,⟨9,0,-1,0,[],[3]⟩,⟨1,-1,-1,0,[1],[7]⟩]:List Nd)∧Below w.heap.size w w9)∧OwnTs w9 w7.heap.size (.slice p8 2 c8) ([([2],[4294967296,4294967296]),([],[4294967296])]:List Ten)∧OwnTs w9 w6.heap.size (.slice p7 3 c7) ([([2],[0,0]),([],[0]),([1],[4294967296])]:List Ten)):=⟨⟨HT8.out.1.up (bstep hB9 hB'),bstep HT8.out.2 (bstep hB9 hB')⟩,HO8.out.1.up (bstep hB9 hB'),HO8.out.2.up (bstep hB9 hB')⟩
 clear cc hB hB9 hB' hL l2 ha hb HT8 HO8 hs1 ht1 hs2 ht2
 go_wp2_with fail
 generalize hK:World.alloc _ _=K
 have hL:Below w9.heap.size w9 K:=by rw [← hK];go_grown
 have l2:Nums .i64 K (.slice (some ⟨w9.heap.size+1+1,0,none⟩) 1 1) [5]:=by
  rw [← hK]
  have:=nums_lit (k:=.i64) (e:=33) ((w9.alloc (.cells #[.slice pa 0 ca,.slice pb 0 cb] 31)).alloc (.cells #[.slice pc 0 cc_,.slice pd 0 cd] 31)) [5] 1 (0,0) rfl
  simp only [World.size_alloc] at this
  exact this
 clear hK
 have cc:=cone_any wa.heap.size tb ([⟨1,-1,-1,0,[2],[1,2]⟩,⟨9,0,-1,0,[],[3]⟩,⟨1,-1,-1,0,[1],[7]⟩]:List Nd) kg3.1 kg3.2 kk3 1 none _ 0 0 1 1 ([],[5]) (RI_kern (by decide +kernel)) (RI_kern (by decide +kernel)) K (HT9.out.1.1.up hL) (Hid.up_tz hT (bstep HT9.out.1.2 hL)) (.inl ⟨rfl,rfl⟩) l2 (by decide)
 rw [ko2.1,ko2.2.1,ko2.2.2] at cc
 refine cc.mono ?_
 rintro e wb ⟨ub,vb,rfl,⟨s1,t1,rfl,hs1,ht1⟩,⟨s2,t2,rfl,hs2,ht2⟩,hB'⟩
 obtain ⟨pe,ne,ce,rfl⟩:=hs1.form_
 obtain ⟨pf,nf,cf,rfl⟩:=ht1.form_
 obtain ⟨pg,cg,rfl⟩:=own_none hs2
 obtain ⟨ph,ch,rfl⟩:=own_none ht2
 have HT10:Hid (Below w.heap.size w wb∧OwnTs wb w7.heap.size (.slice p8 2 c8) ([([2],[4294967296,4294967296]),([],[4294967296])]:List Ten)∧OwnTs wb w6.heap.size (.slice p7 3 c7) ([([2],[0,0]),([],[0]),([1],[4294967296])]:List Ten)):=⟨bstep HT9.out.1.2 (bstep hL hB'),HT9.out.2.1.up (bstep hL hB'),HT9.out.2.2.up (bstep hL hB')⟩
 have HP:Hid (Tn [2] [5,5] (.agg #[.slice pe ne ce,.slice pf nf cf]) wb):=⟨_,_,_,_,_,_,rfl,hs1.nums,ht1.nums⟩
 clear cc hL l2 hB' HT9 hs1 ht1 hs2 ht2
 go_wp2_with fail
 generalize hK:World.alloc _ _=K1
 have hL:Below wb.heap.size wb K1:=by rw [← hK];go_grown
 have X19:Cel K1 wb.heap.size (.slice pe ne ce) (.slice pf nf cf):=(celW hK (by simp [go_sem])).out
 have X20:Cel K1 (wb.heap.size+1) (.slice pg 0 cg) (.slice ph 0 ch):=(celW hK (by simp [go_sem])).out
 obtain ⟨y0,y1,_,_⟩:=X19
 obtain ⟨y2,y3,_,_⟩:=X20
 have k19:=cell_lt y0
 have k20:=cell_lt y2
 have HP1:Hid (Tn [2] [5,5] (.agg #[.slice pe ne ce,.slice pf nf cf]) K1):=HP.out.up hL
 have HB1:Hid (Below w.heap.size w K1):=bstep HT10.out.1 hL
 have hO8:=HT10.out.2.1.up hL
 have hO7:=HT10.out.2.2.up hL
 obtain ⟨q7,s0,u0,ep,x00,x01,hs0,hu0⟩:=hO7.at 0 _ rfl
 subst ep
 obtain ⟨q8,s1,u1,ep,x10,x11,hs1,hu1⟩:=hO8.at 0 _ rfl
 subst ep
 obtain ⟨ps0,ns0,cs0,rfl⟩:=hs0.form_
 obtain ⟨pu0,nu0,cu0,rfl⟩:=hu0.form_
 obtain ⟨ps1,ns1,cs1,rfl⟩:=hs1.form_
 obtain ⟨pu1,nu1,cu1,rfl⟩:=hu1.form_
 have HV0:Hid (Tn [2] [0,0] (.agg #[.slice ps0 ns0 cs0,.slice pu0 nu0 cu0]) K1):=⟨_,_,_,_,_,_,rfl,hs0.nums,hu0.nums⟩
 have HV1:Hid (Tn [2] [4294967296,4294967296] (.agg #[.slice ps1 ns1 cs1,.slice pu1 nu1 cu1]) K1):=⟨_,_,_,_,_,_,rfl,hs1.nums,hu1.nums⟩
 have z7:=cell_lt x00
 have z8:=cell_lt x10
 clear hO7 hO8 hs0 hu0 hs1 hu1 hL hK HT10 HP
 have ck0:Hid (∀ W v,Below K1.heap.size K1 W→Tn [2] [0,0] v W→Calls Tryz.prog 16 #[.agg #[.slice ps0 ns0 cs0,.slice pu0 nu0 cu0],v] W fun e w'=>e = .returned (.bool true)∧Below W.heap.size W w'):=fun W v hW hv=>by
  have ca:=alike_tn (HV0.out.up hW) hv (by unfold Few;simp) (by unfold Few;simp)
  rw [decide_eq_true ⟨rfl,rfl⟩] at ca
  exact ca
 have ck1:Hid (∀ W v,Below K1.heap.size K1 W→Tn [2] [4294967296,4294967296] v W→Calls Tryz.prog 16 #[.agg #[.slice ps1 ns1 cs1,.slice pu1 nu1 cu1],v] W fun e w'=>e = .returned (.bool true)∧Below W.heap.size W w'):=fun W v hW hv=>by
  have ca:=alike_tn (HV1.out.up hW) hv (by unfold Few;simp) (by unfold Few;simp)
  rw [decide_eq_true ⟨rfl,rfl⟩] at ca
  exact ca
 have ck2:Hid (∀ W v,Below K1.heap.size K1 W→Tn [2] [5,5] v W→Calls Tryz.prog 16 #[.agg #[.slice pe ne ce,.slice pf nf cf],v] W fun e w'=>e = .returned (.bool true)∧Below W.heap.size W w'):=fun W v hW hv=>by
  have ca:=alike_tn (HP1.out.up hW) hv (by unfold Few;simp) (by unfold Few;simp)
  rw [decide_eq_true ⟨rfl,rfl⟩] at ca
  exact ca
 refine rel [⟨19,105,LitN [0,0]⟩,⟨20,106,Tn [2] [0,0]⟩,⟨36,122,LitN [4294967296,4294967296]⟩,⟨37,123,Tn [2] [4294967296,4294967296]⟩,⟨50,136,LitN [5,5]⟩,⟨51,137,Tn [2] [5,5]⟩] 60 146 (by kernel_rfl) rfl rfl (by kernel_rfl) (by rfl) ?_ ?_
 ·intro e he v W W' h hb
  simp only [List.mem_cons,List.not_mem_nil,or_false] at he
  rcases he with rfl|rfl|rfl|rfl|rfl|rfl
  ·exact LitN.up h hb
  ·exact Tn.up h hb
  ·exact LitN.up h hb
  ·exact Tn.up h hb
  ·exact LitN.up h hb
  ·exact Tn.up h hb
 apply Exists.intro
 refine ⟨fun x=>?_,?_,?_⟩
 ·simp only [List.take_succ_cons,List.take_zero]
  iterate 19
   refine relQuiet rfl rfl ?_
   apply Exists.intro
   refine ⟨fun F hF hf K hK=>?_,?_⟩
   ·have hFc:=hF.cell
    have hFf:=hF.frozen
    go_big_quiet_op
    first|exact hK|(apply Exists.intro;refine ⟨fun _=>?_,?_⟩;(· fail);exact hK)
   (try simp only [Act.put,List.setIfInBounds_toArray,List.set_cons_zero,List.set_cons_succ])
  refine relTold rfl rfl ?_ ?_
  ·intro F hF hf d
   have hFc:=hF.cell
   have hFf:=hF.frozen
   simp [yieldsR,yieldsUpon,go_sem]
   exact ⟨⟨(F d).heap.size,rfl,nums_lit (k:=.i64) (F d) [0,0] 2 (0,0) rfl⟩,up_alloc _ _⟩
  (try simp only [Act.put,List.setIfInBounds_toArray,List.set_cons_zero,List.set_cons_succ])
  refine relTold rfl rfl ?_ ?_
  ·intro F hF hf d
   have hFc:=hF.cell
   have hFf:=hF.frozen
   have h9:=hf _ List.mem_cons_self (by rfl) d
   obtain ⟨g9,e9,n9⟩:=h9
   simp only [] at e9 n9
   rw [e9] at n9
   simp [yieldsR,yieldsUpon,go_sem,e9]
   refine (row11_any _ 2 2 [0,0] (F d) n9 (by decide)).mono ?_
   rintro e' w8 ⟨g8,rfl,ha8,hb8,_,_,hB8⟩
   exact ⟨_,rfl,⟨_,_,_,_,_,_,rfl,ha8,hb8⟩,hB8⟩
  (try simp only [Act.put,List.setIfInBounds_toArray,List.set_cons_zero,List.set_cons_succ])
  refine relQuiet rfl rfl ?_
  apply Exists.intro
  refine ⟨fun F hF hf K hK=>?_,?_⟩
  ·have hFc:=hF.cell
   have hFf:=hF.frozen
   go_big_quiet_op
   first|exact hK|(apply Exists.intro;refine ⟨fun _=>?_,?_⟩;(· exact hF.call (ck0.out _ _ (hF.below _) (hf _ (List.mem_cons_of_mem _ List.mem_cons_self) (by rfl) _)));exact hK)
  iterate 14
   (try simp only [Act.put,List.setIfInBounds_toArray,List.set_cons_zero,List.set_cons_succ])
   refine relQuiet rfl rfl ?_
   apply Exists.intro
   refine ⟨fun F hF hf K hK=>?_,?_⟩
   ·have hFc:=hF.cell
    have hFf:=hF.frozen
    go_big_quiet_op
    first|exact hK|(apply Exists.intro;refine ⟨fun _=>?_,?_⟩;(· fail);exact hK)
  (try simp only [Act.put,List.setIfInBounds_toArray,List.set_cons_zero,List.set_cons_succ])
  refine relTold rfl rfl ?_ ?_
  ·intro F hF hf d
   have hFc:=hF.cell
   have hFf:=hF.frozen
   simp [yieldsR,yieldsUpon,go_sem]
   exact ⟨⟨(F d).heap.size,rfl,nums_lit (k:=.i64) (F d) [4294967296,4294967296] 2 (0,0) rfl⟩,up_alloc _ _⟩
  (try simp only [Act.put,List.setIfInBounds_toArray,List.set_cons_zero,List.set_cons_succ])
  refine relTold rfl rfl ?_ ?_
  ·intro F hF hf d
   have hFc:=hF.cell
   have hFf:=hF.frozen
   have h9:=hf _ (List.mem_cons_of_mem _ (List.mem_cons_of_mem _ List.mem_cons_self)) (by rfl) d
   obtain ⟨g9,e9,n9⟩:=h9
   simp only [] at e9 n9
   rw [e9] at n9
   simp [yieldsR,yieldsUpon,go_sem,e9]
   refine (row11_any _ 2 2 [4294967296,4294967296] (F d) n9 (by decide)).mono ?_
   rintro e' w8 ⟨g8,rfl,ha8,hb8,_,_,hB8⟩
   exact ⟨_,rfl,⟨_,_,_,_,_,_,rfl,ha8,hb8⟩,hB8⟩
  (try simp only [Act.put,List.setIfInBounds_toArray,List.set_cons_zero,List.set_cons_succ])
  refine relQuiet rfl rfl ?_
  apply Exists.intro
  refine ⟨fun F hF hf K hK=>?_,?_⟩
  ·have hFc:=hF.cell
   have hFf:=hF.frozen
   go_big_quiet_op
   first|exact hK|(apply Exists.intro;refine ⟨fun _=>?_,?_⟩;(· exact hF.call (ck1.out _ _ (hF.below _) (hf _ (List.mem_cons_of_mem _ (List.mem_cons_of_mem _ (List.mem_cons_of_mem _ List.mem_cons_self))) (by rfl) _)));exact hK)
  iterate 11
   (try simp only [Act.put,List.setIfInBounds_toArray,List.set_cons_zero,List.set_cons_succ])
   refine relQuiet rfl rfl ?_
   apply Exists.intro
   refine ⟨fun F hF hf K hK=>?_,?_⟩
   ·have hFc:=hF.cell
    have hFf:=hF.frozen
    go_big_quiet_op
    first|exact hK|(apply Exists.intro;refine ⟨fun _=>?_,?_⟩;(· fail);exact hK)
  (try simp only [Act.put,List.setIfInBounds_toArray,List.set_cons_zero,List.set_cons_succ])
  refine relTold rfl rfl ?_ ?_
  ·intro F hF hf d
   have hFc:=hF.cell
   have hFf:=hF.frozen
   simp [yieldsR,yieldsUpon,go_sem]
   exact ⟨⟨(F d).heap.size,rfl,nums_lit (k:=.i64) (F d) [5,5] 2 (0,0) rfl⟩,up_alloc _ _⟩
  (try simp only [Act.put,List.setIfInBounds_toArray,List.set_cons_zero,List.set_cons_succ])
  refine relTold rfl rfl ?_ ?_
  ·intro F hF hf d
   have hFc:=hF.cell
   have hFf:=hF.frozen
   have h9:=hf _ (List.mem_cons_of_mem _ (List.mem_cons_of_mem _ (List.mem_cons_of_mem _ (List.mem_cons_of_mem _ List.mem_cons_self)))) (by rfl) d
   obtain ⟨g9,e9,n9⟩:=h9
   simp only [] at e9 n9
   rw [e9] at n9
   simp [yieldsR,yieldsUpon,go_sem,e9]
   refine (row11_any _ 2 2 [5,5] (F d) n9 (by decide)).mono ?_
   rintro e' w8 ⟨g8,rfl,ha8,hb8,_,_,hB8⟩
   exact ⟨_,rfl,⟨_,_,_,_,_,_,rfl,ha8,hb8⟩,hB8⟩
  (try simp only [Act.put,List.setIfInBounds_toArray,List.set_cons_zero,List.set_cons_succ])
  refine relQuiet rfl rfl ?_
  apply Exists.intro
  refine ⟨fun F hF hf K hK=>?_,?_⟩
  ·have hFc:=hF.cell
   have hFf:=hF.frozen
   go_big_quiet_op
   first|exact hK|(apply Exists.intro;refine ⟨fun _=>?_,?_⟩;(· exact hF.call (ck2.out _ _ (hF.below _) (hf _ (List.mem_cons_of_mem _ (List.mem_cons_of_mem _ (List.mem_cons_of_mem _ (List.mem_cons_of_mem _ (List.mem_cons_of_mem _ List.mem_cons_self))))) (by rfl) _)));exact hK)
  iterate 7
   (try simp only [Act.put,List.setIfInBounds_toArray,List.set_cons_zero,List.set_cons_succ])
   refine relQuiet rfl rfl ?_
   apply Exists.intro
   refine ⟨fun F hF hf K hK=>?_,?_⟩
   ·have hFc:=hF.cell
    have hFf:=hF.frozen
    go_big_quiet_op
    first|exact hK|(apply Exists.intro;refine ⟨fun _=>?_,?_⟩;(· fail);exact hK)
  (try simp only [Act.put,List.setIfInBounds_toArray,List.set_cons_zero,List.set_cons_succ])
  refine relEnd ?_
  exact rfl
 ·intro x
  simp only [putsK,List.foldl_cons,List.foldl_nil,Act.put,List.setIfInBounds_toArray,List.set_cons_zero,List.set_cons_succ]
 ·intro w9_ xs hB9 hf
  simp only [List.drop_succ_cons,List.drop_zero]
  have HB9:Hid (Below w.heap.size w w9_):=bstep HB1.out hB9
  clear hf hB9 x00 x01 x10 x11 y0 y1 y2 y3
  go_wp2
  go_ret
  exact ⟨rfl,HB9.out⟩
end Go.Proofs.YtaiigfhicaelkaaGreatDoor.Wd
