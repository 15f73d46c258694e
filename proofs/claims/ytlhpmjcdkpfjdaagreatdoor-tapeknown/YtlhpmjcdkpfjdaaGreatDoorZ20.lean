/- TapeKnown: what chapter 10 says of what is none. -/
import Derived.Test.YtlhpmjcdkpfjdaaGreatDoorZ17
namespace Go.Proofs.YtlhpmjcdkpfjdaaGreatDoor.Wd
open Go.RowKit Fx
set_option linter.unusedVariables false
set_option linter.unusedSimpArgs false
theorem kl0:leafR ([]:List Nd) [2] []=0∧leafE ([]:List Nd) [2] []=1∧leafN ([]:List Nd) [2] []=([]:List Nd):=⟨by decide +kernel,by decide +kernel,if_neg (by decide +kernel)⟩
theorem kl1:leafR ([]:List Nd) [2] [1,2]=0∧leafE ([]:List Nd) [2] [1,2]=0∧leafN ([]:List Nd) [2] [1,2]=([⟨1,-1,-1,0,[2],[1,2]⟩]:List Nd):=⟨by decide +kernel,by decide +kernel,if_pos ⟨by decide +kernel,by decide +kernel⟩⟩
theorem kd1:doR ([]:List Nd) 2 0 0 0=0∧doE ([]:List Nd) 2 0 0 0=1∧doN ([]:List Nd) 2 0 0 0=([]:List Nd):=by
 have h0:¬ doP ([]:List Nd) 2 0 0 0:=by decide +kernel
 exact ⟨if_neg h0,by decide +kernel,if_neg h0⟩
theorem kd2:doR ([⟨1,-1,-1,0,[2],[1,2]⟩]:List Nd) 1 0 0 0=0∧doE ([⟨1,-1,-1,0,[2],[1,2]⟩]:List Nd) 1 0 0 0=1∧doN ([⟨1,-1,-1,0,[2],[1,2]⟩]:List Nd) 1 0 0 0=([⟨1,-1,-1,0,[2],[1,2]⟩]:List Nd):=by
 have h0:¬ doP ([⟨1,-1,-1,0,[2],[1,2]⟩]:List Nd) 1 0 0 0:=by decide +kernel
 exact ⟨if_neg h0,by decide +kernel,if_neg h0⟩
theorem kd3:doR ([⟨1,-1,-1,0,[2],[1,2]⟩]:List Nd) 15 0 0 0=0∧doE ([⟨1,-1,-1,0,[2],[1,2]⟩]:List Nd) 15 0 0 0=1∧doN ([⟨1,-1,-1,0,[2],[1,2]⟩]:List Nd) 15 0 0 0=([⟨1,-1,-1,0,[2],[1,2]⟩]:List Nd):=by
 have h0:¬ doP ([⟨1,-1,-1,0,[2],[1,2]⟩]:List Nd) 15 0 0 0:=by decide +kernel
 exact ⟨if_neg h0,by decide +kernel,if_neg h0⟩
theorem kd4:doR ([⟨1,-1,-1,0,[2],[1,2]⟩]:List Nd) 2 0 1 0=0∧doE ([⟨1,-1,-1,0,[2],[1,2]⟩]:List Nd) 2 0 1 0=1∧doN ([⟨1,-1,-1,0,[2],[1,2]⟩]:List Nd) 2 0 1 0=([⟨1,-1,-1,0,[2],[1,2]⟩]:List Nd):=by
 have h0:¬ doP ([⟨1,-1,-1,0,[2],[1,2]⟩]:List Nd) 2 0 1 0:=by decide +kernel
 exact ⟨if_neg h0,by decide +kernel,if_neg h0⟩
theorem kd5:doR ([⟨1,-1,-1,0,[2],[1,2]⟩]:List Nd) 5 0 77 4294967296=1∧doE ([⟨1,-1,-1,0,[2],[1,2]⟩]:List Nd) 5 0 77 4294967296=0∧doN ([⟨1,-1,-1,0,[2],[1,2]⟩]:List Nd) 5 0 77 4294967296=([⟨1,-1,-1,0,[2],[1,2]⟩,⟨5,0,-1,4294967296,[2],[1,2]⟩]:List Nd):=by
 have h0:doP ([⟨1,-1,-1,0,[2],[1,2]⟩]:List Nd) 5 0 77 4294967296:=by decide +kernel
 refine ⟨if_pos h0,by decide +kernel,(if_pos h0).trans ?_⟩
 have h1:rkD 5 [2] [1,2] [] [] 4294967296 = [2]:=by decide +kernel
 have h2:rkV 5 [2] [1,2] [] [] 4294967296 = [1,2]:=by decide +kernel
 show ([⟨1,-1,-1,0,[2],[1,2]⟩]:List Nd)++[⟨5,0,-1,4294967296,rkD 5 [2] [1,2] [] [] 4294967296,rkV 5 [2] [1,2] [] [] 4294967296⟩]=_
 rw [h1,h2]
 rfl
theorem kd6:doR ([⟨1,-1,-1,0,[2],[1,2]⟩,⟨5,0,-1,4294967296,[2],[1,2]⟩]:List Nd) 8 0 0 1=0∧doE ([⟨1,-1,-1,0,[2],[1,2]⟩,⟨5,0,-1,4294967296,[2],[1,2]⟩]:List Nd) 8 0 0 1=1∧doN ([⟨1,-1,-1,0,[2],[1,2]⟩,⟨5,0,-1,4294967296,[2],[1,2]⟩]:List Nd) 8 0 0 1=([⟨1,-1,-1,0,[2],[1,2]⟩,⟨5,0,-1,4294967296,[2],[1,2]⟩]:List Nd):=by
 have h0:¬ doP ([⟨1,-1,-1,0,[2],[1,2]⟩,⟨5,0,-1,4294967296,[2],[1,2]⟩]:List Nd) 8 0 0 1:=by decide +kernel
 exact ⟨if_neg h0,by decide +kernel,if_neg h0⟩
theorem kd7:doR ([⟨1,-1,-1,0,[2],[1,2]⟩,⟨5,0,-1,4294967296,[2],[1,2]⟩]:List Nd) 7 0 0 0=0∧doE ([⟨1,-1,-1,0,[2],[1,2]⟩,⟨5,0,-1,4294967296,[2],[1,2]⟩]:List Nd) 7 0 0 0=4∧doN ([⟨1,-1,-1,0,[2],[1,2]⟩,⟨5,0,-1,4294967296,[2],[1,2]⟩]:List Nd) 7 0 0 0=([⟨1,-1,-1,0,[2],[1,2]⟩,⟨5,0,-1,4294967296,[2],[1,2]⟩]:List Nd):=by
 have h0:¬ doP ([⟨1,-1,-1,0,[2],[1,2]⟩,⟨5,0,-1,4294967296,[2],[1,2]⟩]:List Nd) 7 0 0 0:=by decide +kernel
 exact ⟨if_neg h0,by decide +kernel,if_neg h0⟩
theorem kd8:doR ([⟨1,-1,-1,0,[2],[1,2]⟩,⟨5,0,-1,4294967296,[2],[1,2]⟩]:List Nd) 9 0 0 5=2∧doE ([⟨1,-1,-1,0,[2],[1,2]⟩,⟨5,0,-1,4294967296,[2],[1,2]⟩]:List Nd) 9 0 0 5=0∧doN ([⟨1,-1,-1,0,[2],[1,2]⟩,⟨5,0,-1,4294967296,[2],[1,2]⟩]:List Nd) 9 0 0 5=([⟨1,-1,-1,0,[2],[1,2]⟩,⟨5,0,-1,4294967296,[2],[1,2]⟩,⟨9,0,-1,0,[],[3]⟩]:List Nd):=by
 have h0:doP ([⟨1,-1,-1,0,[2],[1,2]⟩,⟨5,0,-1,4294967296,[2],[1,2]⟩]:List Nd) 9 0 0 5:=by decide +kernel
 refine ⟨if_pos h0,by decide +kernel,(if_pos h0).trans ?_⟩
 have h1:rkD 9 [2] [1,2] [] [] 0 = []:=by decide +kernel
 have h2:rkV 9 [2] [1,2] [] [] 0 = [3]:=by decide +kernel
 show ([⟨1,-1,-1,0,[2],[1,2]⟩,⟨5,0,-1,4294967296,[2],[1,2]⟩]:List Nd)++[⟨9,0,-1,0,rkD 9 [2] [1,2] [] [] 0,rkV 9 [2] [1,2] [] [] 0⟩]=_
 rw [h1,h2]
 rfl
theorem kg1:NodesG ([⟨1,-1,-1,0,[2],[1,2]⟩]:List Nd):=by
 have:=NodesG.leaf (d:=[2]) (x:=[1,2]) NodesG.nil (RI_kern (by decide +kernel))
 rwa [kl1.2.2] at this
theorem kg2:NodesG ([⟨1,-1,-1,0,[2],[1,2]⟩,⟨5,0,-1,4294967296,[2],[1,2]⟩]:List Nd):=by
 have:=NodesG.do (op:=5) (a:=0) (b:=77) (k:=4294967296) kg1
 rwa [kd5.2.2] at this
theorem kg3:NodesG ([⟨1,-1,-1,0,[2],[1,2]⟩,⟨5,0,-1,4294967296,[2],[1,2]⟩,⟨9,0,-1,0,[],[3]⟩]:List Nd):=by
 have:=NodesG.do (op:=9) (a:=0) (b:=0) (k:=5) kg2
 rwa [kd8.2.2] at this
/-- A block of a node that lies off the tape. -/
def OffX (W:World) (tb x:Nat) (cs:Array Value):Prop:=W.heap[x]?=some (.cells cs 36 (0,0))∧x≠tb∧∃ v,W.heap[tb]?=some (.cells #[v] 65 (0,0))∧v.ownBlock≠some x
theorem OffX.spare {W W':World} {tb x:Nat} {cs:Array Value} (h:OffX W tb x cs) (hs:Spare tb W W'):OffX W' tb x cs:=by
 obtain ⟨h1,h2,v,hv,ho⟩:=h
 obtain ⟨e,v',hv',ho'⟩:=hs x v hv h2 (heap_lt h1) ho
 exact ⟨e.trans h1,h2,v',hv',ho'⟩
theorem OffX.new {W:World} {B tb:Nat} {ns:List Nd} (cs:Array Value) (h:TapC W B tb ns):OffX (W.alloc (.cells cs 36)) tb W.heap.size cs:=by
 obtain ⟨p,c,xs,hv,ho,_⟩:=Tap.head h
 have hl:=heap_lt hv
 refine ⟨heap_alloc_new _ _,by omega,_,(heap_alloc_old _ _ hl).trans hv,fun e=>?_⟩
 have:=(World.ownsRow.lt ho _ e).2
 omega
set_option maxRecDepth 16000 in
set_option maxHeartbeats 16000000 in
theorem tpknown_walk (w:World) (hT:Hid (Tz w)):
  Calls Tryz.prog 3 #[] w fun e w'=>e = .returned (.bool true)∧Below w.heap.size w w':=by
 haveI:Nonempty World:=⟨w⟩
 go_enter Tryz.func3,Tryz.ntmps3
 go_wp2_with fail
 refine (awake10_any w hT).mono ?_
 rintro e wa ⟨rfl,hBa⟩
 have HBa:Hid (Below w.heap.size w wa):=hBa
 clear hBa
 go_wp2_with fail
 refine (cnew_any wa).mono ?_
 rintro e w1 ⟨tb,rfl,hT1,hB1⟩
 have HT1:Hid (TapC w1 wa.heap.size tb ([]:List Nd)∧Below wa.heap.size wa w1):=⟨hT1,hB1⟩
 clear hT1 hB1
 go_wp2_with fail
 generalize hK:World.alloc _ _=K
 have hL:Below w1.heap.size w1 K:=by rw [← hK];exact up_alloc w1 _
 have l2:Nums .i64 K (.slice (some ⟨w1.heap.size,0,none⟩) 1 1) [2]:=by rw [← hK];exact nums_lit (k:=.i64) w1 [2] 1 (0,0) rfl
 clear hK
 have cc:=cleaf_any wa.heap.size tb ([]:List Nd) NodesG.nil _ none 1 1 0 0 [2] [] (RI_kern (by decide +kernel)) (RI_kern (by decide +kernel)) K (HT1.out.1.up hL) l2 (.inl ⟨rfl,rfl⟩)
 rw [kl0.1,kl0.2.1,kl0.2.2] at cc
 refine cc.mono ?_
 rintro e w2 ⟨rfl,hT2,hC2,_⟩
 have HT2:Hid (TapC w2 wa.heap.size tb ([]:List Nd)∧Below wa.heap.size wa w2):=⟨hT2,(bstep HT1.out.2 hL).trans hC2⟩
 clear cc hT2 hC2 hL l2 HT1
 go_wp2_with fail
 have cc:=cdo_sp wa.heap.size tb ([]:List Nd) NodesG.nil 2 0 0 0 (by unfold InR;omega) w2 HT2.out.1 (Hid.up_tz hT (bstep HBa.out HT2.out.2))
 rw [kd1.1,kd1.2.1,kd1.2.2] at cc
 refine cc.mono ?_
 rintro e w3 ⟨rfl,hT3,hC3,_,hS3⟩
 have HT3:Hid (TapC w3 wa.heap.size tb ([]:List Nd)∧Below wa.heap.size wa w3):=⟨hT3,HT2.out.2.trans hC3⟩
 clear cc hT3 hC3 hS3 HT2
 go_wp2_with fail
 generalize hK:World.alloc _ _=K
 have hL:Below w3.heap.size w3 K:=by rw [← hK];exact up_alloc w3 _
 have l2:Nums .i64 K (.slice (some ⟨w3.heap.size,0,none⟩) 2 2) [1,2]:=by rw [← hK];exact nums_lit (k:=.i64) w3 [1,2] 2 (0,0) rfl
 clear hK
 refine (row10_any _ 2 2 [1,2] K l2 (by decide)).mono ?_
 rintro e r4 ⟨g4,rfl,ha4,hb4,_,_,hB4⟩
 go_wp2_with fail
 have cc:=cleaf_any wa.heap.size tb ([]:List Nd) NodesG.nil _ _ 1 1 2 2 [2] [1,2] (RI_kern (by decide +kernel)) (RI_kern (by decide +kernel)) r4 (HT3.out.1.up (bstep hL hB4)) ha4 hb4
 rw [kl1.1,kl1.2.1,kl1.2.2] at cc
 refine cc.mono ?_
 rintro e w4 ⟨rfl,hT4,hC4,_⟩
 have HT4:Hid (TapC w4 wa.heap.size tb ([⟨1,-1,-1,0,[2],[1,2]⟩]:List Nd)∧Below wa.heap.size wa w4):=⟨hT4,(bstep HT3.out.2 (bstep hL hB4)).trans hC4⟩
 clear cc hT4 hC4 hL l2 hB4 ha4 hb4 HT3
 go_wp2_with fail
 have cc:=cdo_sp wa.heap.size tb ([⟨1,-1,-1,0,[2],[1,2]⟩]:List Nd) kg1 1 0 0 0 (by unfold InR;omega) w4 HT4.out.1 (Hid.up_tz hT (bstep HBa.out HT4.out.2))
 rw [kd2.1,kd2.2.1,kd2.2.2] at cc
 refine cc.mono ?_
 rintro e w5 ⟨rfl,hT5,hC5,_,hS5⟩
 have HT5:Hid (TapC w5 wa.heap.size tb ([⟨1,-1,-1,0,[2],[1,2]⟩]:List Nd)∧Below wa.heap.size wa w5):=⟨hT5,HT4.out.2.trans hC5⟩
 clear cc hT5 hC5 hS5 HT4
 go_wp2_with fail
 have cc:=cdo_sp wa.heap.size tb ([⟨1,-1,-1,0,[2],[1,2]⟩]:List Nd) kg1 15 0 0 0 (by unfold InR;omega) w5 HT5.out.1 (Hid.up_tz hT (bstep HBa.out HT5.out.2))
 rw [kd3.1,kd3.2.1,kd3.2.2] at cc
 refine cc.mono ?_
 rintro e w6 ⟨rfl,hT6,hC6,_,hS6⟩
 have HT6:Hid (TapC w6 wa.heap.size tb ([⟨1,-1,-1,0,[2],[1,2]⟩]:List Nd)∧Below wa.heap.size wa w6):=⟨hT6,HT5.out.2.trans hC6⟩
 clear cc hT6 hC6 hS6 HT5
 go_wp2_with fail
 have cc:=cdo_sp wa.heap.size tb ([⟨1,-1,-1,0,[2],[1,2]⟩]:List Nd) kg1 2 0 1 0 (by unfold InR;omega) w6 HT6.out.1 (Hid.up_tz hT (bstep HBa.out HT6.out.2))
 rw [kd4.1,kd4.2.1,kd4.2.2] at cc
 refine cc.mono ?_
 rintro e w7 ⟨rfl,hT7,hC7,_,hS7⟩
 have HT7:Hid (TapC w7 wa.heap.size tb ([⟨1,-1,-1,0,[2],[1,2]⟩]:List Nd)∧Below wa.heap.size wa w7):=⟨hT7,HT6.out.2.trans hC7⟩
 clear cc hT7 hC7 hS7 HT6
 go_wp2_with fail
 have cc:=cdo_sp wa.heap.size tb ([⟨1,-1,-1,0,[2],[1,2]⟩]:List Nd) kg1 5 0 77 4294967296 (by unfold InR;omega) w7 HT7.out.1 (Hid.up_tz hT (bstep HBa.out HT7.out.2))
 rw [kd5.1,kd5.2.1,kd5.2.2] at cc
 refine cc.mono ?_
 rintro e w8 ⟨rfl,hT8,hC8,_,hS8⟩
 have HT8:Hid (TapC w8 wa.heap.size tb ([⟨1,-1,-1,0,[2],[1,2]⟩,⟨5,0,-1,4294967296,[2],[1,2]⟩]:List Nd)∧Below wa.heap.size wa w8):=⟨hT8,HT7.out.2.trans hC8⟩
 clear cc hT8 hC8 hS8 HT7
 go_wp2_with fail
 refine (cat_any wa.heap.size tb ([⟨1,-1,-1,0,[2],[1,2]⟩,⟨5,0,-1,4294967296,[2],[1,2]⟩]:List Nd) kg2 1 _ rfl w8 HT8.out.1).mono ?_
 rintro e w9 ⟨s9,t9,rfl,hs9,ht9,hB9⟩
 obtain ⟨ps,ms,cs,rfl⟩:=hs9.form_
 obtain ⟨pt,mt,ct,rfl⟩:=ht9.form_
 have HT9:Hid (TapC w9 wa.heap.size tb ([⟨1,-1,-1,0,[2],[1,2]⟩,⟨5,0,-1,4294967296,[2],[1,2]⟩]:List Nd)∧Below wa.heap.size wa w9):=⟨HT8.out.1.up hB9,bstep HT8.out.2 hB9⟩
 clear hs9 ht9 hB9 HT8
 go_wp2_with fail
 generalize hK:World.alloc _ _=K
 obtain ⟨bx,ebx⟩:∃ z,w9.heap.size=z:=⟨_,rfl⟩
 have HX9:Hid (OffX K tb bx #[.int .i64 5,.int .i64 0,.int .i64 (-1),.int .i64 4294967296,.slice ps ms cs,.slice pt mt ct]):=by
  have h:=OffX.new (ns:=([⟨1,-1,-1,0,[2],[1,2]⟩,⟨5,0,-1,4294967296,[2],[1,2]⟩]:List Nd)) #[.int .i64 5,.int .i64 0,.int .i64 (-1),.int .i64 4294967296,.slice ps ms cs,.slice pt mt ct] HT9.out.1
  rw [hK,ebx] at h
  exact h
 have HT0:Hid (TapC K wa.heap.size tb ([⟨1,-1,-1,0,[2],[1,2]⟩,⟨5,0,-1,4294967296,[2],[1,2]⟩]:List Nd)∧Below wa.heap.size wa K):=by
  have h:=up_alloc w9 (.cells #[.int .i64 5,.int .i64 0,.int .i64 (-1),.int .i64 4294967296,.slice ps ms cs,.slice pt mt ct] 36)
  rw [hK] at h
  exact ⟨HT9.out.1.up h,bstep HT9.out.2 h⟩
 rw [ebx]
 clear hK HT9 ebx
 have cc:=cdo_sp wa.heap.size tb ([⟨1,-1,-1,0,[2],[1,2]⟩,⟨5,0,-1,4294967296,[2],[1,2]⟩]:List Nd) kg2 8 0 0 1 (by unfold InR;omega) K HT0.out.1 (Hid.up_tz hT (bstep HBa.out HT0.out.2))
 rw [kd6.1,kd6.2.1,kd6.2.2] at cc
 refine cc.mono ?_
 rintro e w10 ⟨rfl,hT10,hC10,_,hS10⟩
 have HT10:Hid (TapC w10 wa.heap.size tb ([⟨1,-1,-1,0,[2],[1,2]⟩,⟨5,0,-1,4294967296,[2],[1,2]⟩]:List Nd)∧Below wa.heap.size wa w10):=⟨hT10,HT0.out.2.trans hC10⟩
 have HX10:Hid (OffX w10 tb bx #[.int .i64 5,.int .i64 0,.int .i64 (-1),.int .i64 4294967296,.slice ps ms cs,.slice pt mt ct]):=HX9.out.spare hS10
 clear cc hT10 hC10 hS10 HT0 HX9
 go_wp2_with fail
 have cc:=cdo_sp wa.heap.size tb ([⟨1,-1,-1,0,[2],[1,2]⟩,⟨5,0,-1,4294967296,[2],[1,2]⟩]:List Nd) kg2 7 0 0 0 (by unfold InR;omega) w10 HT10.out.1 (Hid.up_tz hT (bstep HBa.out HT10.out.2))
 rw [kd7.1,kd7.2.1,kd7.2.2] at cc
 refine cc.mono ?_
 rintro e w11 ⟨rfl,hT11,hC11,_,hS11⟩
 have HT11:Hid (TapC w11 wa.heap.size tb ([⟨1,-1,-1,0,[2],[1,2]⟩,⟨5,0,-1,4294967296,[2],[1,2]⟩]:List Nd)∧Below wa.heap.size wa w11):=⟨hT11,HT10.out.2.trans hC11⟩
 have HX11:Hid (OffX w11 tb bx #[.int .i64 5,.int .i64 0,.int .i64 (-1),.int .i64 4294967296,.slice ps ms cs,.slice pt mt ct]):=HX10.out.spare hS11
 clear cc hT11 hC11 hS11 HT10 HX10
 go_wp2_with fail
 have cc:=cdo_sp wa.heap.size tb ([⟨1,-1,-1,0,[2],[1,2]⟩,⟨5,0,-1,4294967296,[2],[1,2]⟩]:List Nd) kg2 9 0 0 5 (by unfold InR;omega) w11 HT11.out.1 (Hid.up_tz hT (bstep HBa.out HT11.out.2))
 rw [kd8.1,kd8.2.1,kd8.2.2] at cc
 refine cc.mono ?_
 rintro e w12 ⟨rfl,hT12,hC12,_,hS12⟩
 have HT12:Hid (TapC w12 wa.heap.size tb ([⟨1,-1,-1,0,[2],[1,2]⟩,⟨5,0,-1,4294967296,[2],[1,2]⟩,⟨9,0,-1,0,[],[3]⟩]:List Nd)∧Below wa.heap.size wa w12):=⟨hT12,HT11.out.2.trans hC12⟩
 have HX12:Hid (OffX w12 tb bx #[.int .i64 5,.int .i64 0,.int .i64 (-1),.int .i64 4294967296,.slice ps ms cs,.slice pt mt ct]):=HX11.out.spare hS12
 clear cc hT12 hC12 hS12 HT11 HX11
 go_wp2_with fail
 refine (cat_any wa.heap.size tb ([⟨1,-1,-1,0,[2],[1,2]⟩,⟨5,0,-1,4294967296,[2],[1,2]⟩,⟨9,0,-1,0,[],[3]⟩]:List Nd) kg3 2 _ rfl w12 HT12.out.1).mono ?_
 rintro e w13 ⟨s13,t13,rfl,hs13,ht13,hB13⟩
 obtain ⟨pu,mu,cu,rfl,HU⟩:=hs13.nums.lst
 obtain rfl:0=mu:=HU.out.1
 obtain ⟨gv,cv,rfl,hgv⟩:=ht13.at (by simp)
 have HT13:Hid (TapC w13 wa.heap.size tb ([⟨1,-1,-1,0,[2],[1,2]⟩,⟨5,0,-1,4294967296,[2],[1,2]⟩,⟨9,0,-1,0,[],[3]⟩]:List Nd)∧Below wa.heap.size wa w13):=⟨HT12.out.1.up hB13,bstep HT12.out.2 hB13⟩
 have HX13:Hid (w13.heap[bx]?=some (.cells #[.int .i64 5,.int .i64 0,.int .i64 (-1),.int .i64 4294967296,.slice ps ms cs,.slice pt mt ct] 36 (0,0))):=by
  show _=_
  rw [hB13.block _ (heap_lt HX12.out.1)]
  exact HX12.out.1
 have HV13:Hid (OwnK .i64 33 w13 w12.heap.size (.slice (some ⟨gv,0,none⟩) 1 cv) [3]):=ht13
 clear HU hs13 ht13 hB13 HT12 HX12
 go_wp2_with fail
 generalize hK:World.alloc _ _=M
 obtain ⟨by_,eby⟩:∃ z,w13.heap.size=z:=⟨_,rfl⟩
 have hL:Below w13.heap.size w13 M:=by
  have h:=up_alloc w13 (.cells #[.int .i64 9,.int .i64 0,.int .i64 (-1),.int .i64 0,.slice pu 0 cu,.slice (some ⟨gv,0,none⟩) 1 cv] 36)
  rw [hK] at h
  exact h
 have HY0:Hid (M.heap[by_]?=some (.cells #[.int .i64 9,.int .i64 0,.int .i64 (-1),.int .i64 0,.slice pu 0 cu,.slice (some ⟨gv,0,none⟩) 1 cv] 36 (0,0))):=by
  show _=_
  rw [← hK,← eby]
  exact heap_alloc_new _ _
 have HT14:Hid (TapC M wa.heap.size tb ([⟨1,-1,-1,0,[2],[1,2]⟩,⟨5,0,-1,4294967296,[2],[1,2]⟩,⟨9,0,-1,0,[],[3]⟩]:List Nd)∧Below wa.heap.size wa M):=⟨HT13.out.1.up hL,bstep HT13.out.2 hL⟩
 have HX14:Hid (M.heap[bx]?=some (.cells #[.int .i64 5,.int .i64 0,.int .i64 (-1),.int .i64 4294967296,.slice ps ms cs,.slice pt mt ct] 36 (0,0))):=by
  show _=_
  rw [hL.block _ (heap_lt HX13.out)]
  exact HX13.out
 have HV14:=HV13.out.up hL
 have HV14:Hid (OwnK .i64 33 M w12.heap.size (.slice (some ⟨gv,0,none⟩) 1 cv) [3]):=HV14
 rw [eby]
 clear hK hL HT13 HX13 HV13 eby
 refine (catno_any wa.heap.size tb ([⟨1,-1,-1,0,[2],[1,2]⟩,⟨5,0,-1,4294967296,[2],[1,2]⟩,⟨9,0,-1,0,[],[3]⟩]:List Nd) 9 (.inr (by decide)) M HT14.out.1).mono ?_
 rintro e w15 ⟨rfl,hB15⟩
 have HT15:Hid (TapC w15 wa.heap.size tb ([⟨1,-1,-1,0,[2],[1,2]⟩,⟨5,0,-1,4294967296,[2],[1,2]⟩,⟨9,0,-1,0,[],[3]⟩]:List Nd)∧Below wa.heap.size wa w15):=⟨HT14.out.1.up hB15,bstep HT14.out.2 hB15⟩
 have HM15:Hid (Below M.heap.size M w15):=hB15
 clear hB15 HT14
 go_wp2_with fail
 generalize hK:World.alloc _ _=O
 have hL:Below w15.heap.size w15 O:=by rw [← hK];exact up_alloc w15 _
 have HT16:Hid (TapC O wa.heap.size tb ([⟨1,-1,-1,0,[2],[1,2]⟩,⟨5,0,-1,4294967296,[2],[1,2]⟩,⟨9,0,-1,0,[],[3]⟩]:List Nd)∧Below wa.heap.size wa O):=⟨HT15.out.1.up hL,bstep HT15.out.2 hL⟩
 have HM16:Hid (Below M.heap.size M O):=bstep HM15.out hL
 clear hK hL HT15 HM15
 refine (cvno_any wa.heap.size tb ([⟨1,-1,-1,0,[2],[1,2]⟩,⟨5,0,-1,4294967296,[2],[1,2]⟩,⟨9,0,-1,0,[],[3]⟩]:List Nd) (-1) (.inl (by decide)) O HT16.out.1).mono ?_
 rintro e w17 ⟨rfl,hB17⟩
 have HT17:Hid (TapC w17 wa.heap.size tb ([⟨1,-1,-1,0,[2],[1,2]⟩,⟨5,0,-1,4294967296,[2],[1,2]⟩,⟨9,0,-1,0,[],[3]⟩]:List Nd)∧Below wa.heap.size wa w17):=⟨HT16.out.1.up hB17,bstep HT16.out.2 hB17⟩
 have HM17:Hid (Below M.heap.size M w17):=bstep HM16.out hB17
 clear hB17 HT16 HM16
 have hM:=HM17.out
 obtain ⟨⟨_,x1,x2,x3,_,_⟩,_⟩:=box6 ((hM.block _ (heap_lt HX14.out)).trans HX14.out)
 obtain ⟨⟨_,_,_,y3,y4,y5⟩,_⟩:=box6 ((hM.block _ (heap_lt HY0.out)).trans HY0.out)
 obtain ⟨v0,_⟩:=(HV14.out.up hM).cell rfl 0 (by decide)
 have z1:=cell_lt x1
 have z2:=cell_lt y3
 have z3:=cell_lt v0
 have HB18:Hid (Below w.heap.size w w17):=bstep HBa.out HT17.out.2
 clear hM HX14 HY0 HV14 HT17 HM17
 go_wp2
 go_ret
 exact ⟨rfl,bstep HB18.out (up_alloc _ _)⟩
end Go.Proofs.YtlhpmjcdkpfjdaaGreatDoor.Wd
