/- The law's row and awake: it tells true. -/
import Derived.Test.YtpdkkcnmgiihcaaGreatDoorL18
set_option linter.unusedVariables false
set_option linter.unusedSimpArgs false
set_option maxHeartbeats 16000000
set_option maxRecDepth 16000
namespace Go.Proofs.YtpdkkcnmgiihcaaGreatDoor.Wd
open Go.RowKit Fx
theorem row13_any (p:Option Addr) (n c:Nat) (x:List Int) (w:World) (h:Nums .i64 w (.slice p n c) x) (hn:n≤4096):
  Calls Tryz.prog 11 #[.slice p n c] w fun e w'=>∃ g,e = .returned (.agg #[.slice (some ⟨g,0,none⟩) 1 1,.slice p n c])∧Nums .i64 w' (.slice (some ⟨g,0,none⟩) 1 1) [(n:Int)]∧Nums .i64 w' (.slice p n c) x∧w.heap.size≤g∧OwnK .i64 3 w' w.heap.size (.slice (some ⟨g,0,none⟩) 1 1) [(n:Int)]∧Below w.heap.size w w':=by
 have H:Hid (Nums .i64 w (.slice p n c) x):=h
 have hn':(n:Int)≤4096:=by omega
 clear h
 go_enter Tryz.func11,Tryz.ntmps11
 go_wp2
 have hB:Below w.heap.size w ((w.alloc (.cells #[.slice (some ⟨w.heap.size+1,0,none⟩) 1 1,.slice p n c] 31)).alloc (.cells #[.int .i64 (n:Int)] 3)):=by go_grown
 have hO:OwnK .i64 3 ((w.alloc (.cells #[.slice (some ⟨w.heap.size+1,0,none⟩) 1 1,.slice p n c] 31)).alloc (.cells #[.int .i64 (n:Int)] 3)) w.heap.size (.slice (some ⟨w.heap.size+1,0,none⟩) 1 1) [(n:Int)]:=by
  have h0:=own_lit (k:=.i64) (e:=3) (w.alloc (.cells #[.slice (some ⟨w.heap.size+1,0,none⟩) 1 1,.slice p n c] 31)) [(n:Int)] 1 rfl (by decide)
  rw [size_alloc] at h0
  exact h0.low (Nat.le_succ _)
 refine bodyPost_ret (v:=.agg #[.slice (some ⟨w.heap.size+1,0,none⟩) 1 1,.slice p n c]) (by simp [results,Tryz.results11,go_sem]) rfl ⟨_,rfl,?_,?_,Nat.le_succ _,hO,hB⟩
 ·exact hO.nums
 ·exact H.out.up hB
theorem aw13:RwP 1 [12884901888]∧RwP 1 [4294967296]∧RI [12884901888]∧RI [4294967296]∧meanI (sqV [12884901888] [4294967296])=17179869184:=⟨⟨rfl,by decide,by decide⟩,⟨rfl,by decide,by decide⟩,RI_kern (by decide +kernel),RI_kern (by decide +kernel),by decide +kernel⟩
theorem awake13_any (w:World) (hT:Hid (Tz w)):
  Calls Tryz.prog 8 #[] w fun e w'=>e = .returned (.bool true)∧Below w.heap.size w w':=by
 haveI:Nonempty World:=⟨w⟩
 go_enter Tryz.func8,Tryz.ntmps8
 go_wp2_with fail
 refine (cnew_any w).mono ?_
 rintro e w1 ⟨tb,rfl,hT1,hB1⟩
 have HT1:Hid (TapC w1 w.heap.size tb []∧Below w.heap.size w w1):=⟨hT1,hB1⟩
 clear hT1 hB1
 go_wp2_with fail
 generalize hK2:World.alloc _ _=K2
 have hL2:Below w1.heap.size w1 K2:=by rw [← hK2];exact up_alloc w1 _
 have l2:Nums .i64 K2 (.slice (some ⟨w1.heap.size,0,none⟩) 1 1) [12884901888]:=by rw [← hK2];exact nums_lit (k:=.i64) w1 [12884901888] 1 (0,0) rfl
 clear hK2
 refine (row13_any _ 1 1 [12884901888] K2 l2 (by decide)).mono ?_
 rintro e r2 ⟨g2,rfl,ha2,hb2,_,_,hB2⟩
 go_wp2_with fail
 have cc:=cleaf_any w.heap.size tb [] NodesG.nil _ _ 1 1 1 1 [1] [12884901888] (RI_kern (by decide +kernel)) aw13.2.2.1 r2 (HT1.out.1.up (bstep hL2 hB2)) ha2 hb2
 have e1:=one_ok aw13.1
 rw [show ([((1:Nat):Int)]:List Int) = [1] from rfl] at e1
 rw [e1.1,e1.2.1,e1.2.2] at cc
 refine cc.mono ?_
 rintro e w2 ⟨rfl,hT2,hC2,_⟩
 have HT2:Hid (TapC w2 w.heap.size tb (one1 1 [12884901888])∧Below w.heap.size w w2):=⟨hT2,(bstep HT1.out.2 (bstep hL2 hB2)).trans hC2⟩
 clear cc hT2 hC2 hB2 hL2 l2 ha2 hb2 HT1 e1
 go_wp2_with fail
 generalize hK3:World.alloc _ _=K3
 have hL3:Below w2.heap.size w2 K3:=by rw [← hK3];exact up_alloc w2 _
 have l3:OwnK .i64 33 K3 w2.heap.size (.slice (some ⟨w2.heap.size,0,none⟩) 1 1) [4294967296]:=by rw [← hK3];exact own_lit (k:=.i64) w2 [4294967296] 1 rfl (by decide)
 clear hK3
 have hF:=one_fit aw13.1 aw13.2.1
 have hbK:Below w.heap.size w K3:=bstep HT2.out.2 hL3
 have cc:=csquare_any w.heap.size tb (one1 1 [12884901888]) (one_G aw13.1 aw13.2.2.1) (by decide) 0 _ 1 1 [4294967296] aw13.2.2.2.1 K3 (HT2.out.1.up hL3) (show Hid _ from fun W hW=>hT.out.up (hbK.trans hW)) (l3.keptL (by decide))
 rw [hF.square.1,hF.square.2.1,hF.square.2.2] at cc
 have HN:Hid (NodesG (sq4 (one1 1 [12884901888]) 0 1 [12884901888] [4294967296])∧(sq4 (one1 1 [12884901888]) 0 1 [12884901888] [4294967296])[4]?=some ⟨10,3,-1,0,[],[17179869184]⟩):=⟨hF.sqG (one_G aw13.1 aw13.2.2.1) aw13.2.2.2.1,by
  have:=hF.sqN
  rw [aw13.2.2.2.2] at this
  exact this⟩
 obtain ⟨NS,eNS⟩:∃ NS,sq4 (one1 1 [12884901888]) 0 1 [12884901888] [4294967296]=NS:=⟨_,rfl⟩
 rw [eNS] at cc HN
 rw [show ((one1 1 [12884901888]).length:Int)+3=4 from rfl] at cc
 clear eNS hF
 refine cc.mono ?_
 rintro e w3 ⟨rfl,hT3,hC3,_⟩
 have HT3:Hid (TapC w3 w.heap.size tb NS∧Below w.heap.size w w3):=⟨hT3,hbK.trans hC3⟩
 clear cc hT3 hC3 hbK hL3 l3 HT2
 go_wp2_with fail
 refine (cvalue_any w.heap.size tb NS HN.out.1 4 _ HN.out.2 w3 HT3.out.1).mono ?_
 rintro e w4 ⟨v4,rfl,h4,hB4⟩
 obtain ⟨p,m,c,p2,m2,c2,rfl,h41,h42⟩:=h4.own
 obtain ⟨gv,cv,ev,hgv⟩:=h42.at (by decide)
 cases ev
 have HB4:Hid (Below w.heap.size w w4):=bstep HT3.out.2 hB4
 have q0:=(h42.cell rfl 0 (by decide)).1
 have q1:=cell_lt q0
 clear h4 h41 h42 hB4 HT3
 go_wp2
 go_ret
 exact ⟨rfl,bstep HB4.out (up_alloc _ _)⟩
end Go.Proofs.YtpdkkcnmgiihcaaGreatDoor.Wd
