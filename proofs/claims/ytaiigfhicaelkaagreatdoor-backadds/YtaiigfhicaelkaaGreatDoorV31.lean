/- BackAdds: what is used twice gets both gradients, added; what is not used none. -/
import Derived.Test.YtaiigfhicaelkaaGreatDoorV27
import Derived.Test.YtaiigfhicaelkaaGreatDoorV25
import Derived.Test.YtaiigfhicaelkaaGreatDoorV30
set_option linter.unusedVariables false
set_option linter.unusedSimpArgs false
set_option maxHeartbeats 16000000
set_option maxRecDepth 16000
namespace Go.Proofs.YtaiigfhicaelkaaGreatDoor.Wd
open Go.RowKit Fx
theorem badds_walk (w:World) (hT:Hid (Tz w)) (x k m:Int) (hx:InR x) (hk:InR k) (hm:InR m):
  Calls Tryz.prog 7 #[.int .i64 x,.int .i64 k,.int .i64 m] w fun e w'=>e = .returned (.bool true)∧Below w.heap.size w w':=by
 haveI:Nonempty World:=⟨w⟩
 obtain ⟨S,eS⟩:∃ S,Fx.hold (m+k)=S:=⟨_,rfl⟩
 have HS:Hid (Fx.hold (m+k)=S):=eS
 have HI:Hid (InR x∧InR k∧InR m):=⟨hx,hk,hm⟩
 clear eS hx hk hm
 go_enter Tryz.func7,Tryz.ntmps7
 go_wp2_with fail
 refine (awake11_any w hT).mono ?_
 rintro e wa ⟨rfl,hBa⟩
 have HB_wa:Hid (Below w.heap.size w wa):=hBa
 clear hBa
 go_wp2_with fail
 refine (cnew_any wa).mono ?_
 rintro e w1 ⟨tb,rfl,hT1,hB1⟩
 have HT1:Hid (TapC w1 wa.heap.size tb []∧Below w.heap.size w w1):=⟨hT1,bstep HB_wa.out hB1⟩
 clear hT1 hB1
 go_wp2_with fail
 generalize hK:World.alloc _ _=K
 have hL:Below w1.heap.size w1 K:=by rw [← hK];exact up_alloc _ _
 have l2:Nums .i64 K (.slice (some ⟨w1.heap.size,0,none⟩) 1 1) [x]:=by rw [← hK];exact nums_lit (k:=.i64) w1 [x] 1 (0,0) rfl
 clear hK
 refine (row11_any _ 1 1 [x] K l2 (by decide)).mono ?_
 rintro e r2 ⟨g2,rfl,ha,hb,_,_,hB⟩
 go_wp2_with fail
 have cc:=cleaf_any wa.heap.size tb [] NodesG.nil _ _ 1 1 1 1 [1] [x] (RI_kern (by decide +kernel)) (one_g HI.out.1).2.2 r2 (HT1.out.1.up (bstep hL hB)) ha hb
 rw [(ad_l1 x).1,(ad_l1 x).2.1,(ad_l1 x).2.2] at cc
 refine cc.mono ?_
 rintro e w2 ⟨rfl,hT',hC',_⟩
 have HT2:Hid (TapC w2 wa.heap.size tb (ad1 x)∧Below w.heap.size w w2):=⟨hT',(bstep HT1.out.2 (bstep hL hB)).trans (hC'.mono HB_wa.out.size)⟩
 clear cc hT' hC' hB ha hb l2 hL HT1
 go_wp2_with fail
 generalize hK:World.alloc _ _=K
 have hL:Below w2.heap.size w2 K:=by rw [← hK];exact up_alloc _ _
 have l2:Nums .i64 K (.slice (some ⟨w2.heap.size,0,none⟩) 1 1) [9]:=by rw [← hK];exact nums_lit (k:=.i64) w2 [9] 1 (0,0) rfl
 clear hK
 refine (row11_any _ 1 1 [9] K l2 (by decide)).mono ?_
 rintro e r3 ⟨g3,rfl,ha,hb,_,_,hB⟩
 go_wp2_with fail
 have cc:=cleaf_any wa.heap.size tb (ad1 x) (ad_g1 HI.out.1).1 _ _ 1 1 1 1 [1] [9] (RI_kern (by decide +kernel)) (one_g (v:=9) (by unfold InR;omega)).2.2 r3 (HT2.out.1.up (bstep hL hB)) ha hb
 rw [(ad_l2 x).1,(ad_l2 x).2.1,(ad_l2 x).2.2] at cc
 refine cc.mono ?_
 rintro e w3 ⟨rfl,hT',hC',_⟩
 have HT3:Hid (TapC w3 wa.heap.size tb (ad2 x)∧Below w.heap.size w w3):=⟨hT',(bstep HT2.out.2 (bstep hL hB)).trans (hC'.mono HB_wa.out.size)⟩
 clear cc hT' hC' hB ha hb l2 hL HT2
 go_wp2_with fail
 have cc:=cdo_any wa.heap.size tb (ad2 x) (ad_g2 HI.out.1).1 5 0 (-1) k ⟨by unfold InR;omega,by unfold InR;omega,by unfold InR;omega,HI.out.2.1⟩ w3 HT3.out.1 (Hid.up_tz hT HT3.out.2)
 rw [(ad_l3 x k).1,(ad_l3 x k).2.1,(ad_l3 x k).2.2] at cc
 refine cc.mono ?_
 rintro e w4 ⟨rfl,hT',hC',_⟩
 have HT4:Hid (TapC w4 wa.heap.size tb (ad3 x k)∧Below w.heap.size w w4):=⟨hT',HT3.out.2.trans (hC'.mono HB_wa.out.size)⟩
 clear cc hT' hC' HT3
 go_wp2_with fail
 have cc:=cdo_any wa.heap.size tb (ad3 x k) (ad_g3 k HI.out.1).1 5 0 (-1) m ⟨by unfold InR;omega,by unfold InR;omega,by unfold InR;omega,HI.out.2.2⟩ w4 HT4.out.1 (Hid.up_tz hT HT4.out.2)
 rw [(ad_l4 x k m).1,(ad_l4 x k m).2.1,(ad_l4 x k m).2.2] at cc
 refine cc.mono ?_
 rintro e w5 ⟨rfl,hT',hC',_⟩
 have HT5:Hid (TapC w5 wa.heap.size tb (ad4 x k m)∧Below w.heap.size w w5):=⟨hT',HT4.out.2.trans (hC'.mono HB_wa.out.size)⟩
 clear cc hT' hC' HT4
 go_wp2_with fail
 have cc:=cdo_any wa.heap.size tb (ad4 x k m) (ad_g4 k m HI.out.1).1 2 2 3 0 (by unfold InR;omega) w5 HT5.out.1 (Hid.up_tz hT HT5.out.2)
 rw [(ad_l5 x k m).1,(ad_l5 x k m).2.1,(ad_l5 x k m).2.2] at cc
 refine cc.mono ?_
 rintro e w6 ⟨rfl,hT',hC',_⟩
 have HT6:Hid (TapC w6 wa.heap.size tb (ad5 x k m)∧Below w.heap.size w w6):=⟨hT',HT5.out.2.trans (hC'.mono HB_wa.out.size)⟩
 clear cc hT' hC' HT5
 go_wp2_with fail
 have hKK:NodesK (ad5 x k m):=fun nd hm'=>by
  have h:=HI.out
  have z:=zero_R
  unfold ad5 at hm'
  simp only [List.mem_cons,List.not_mem_nil,or_false] at hm'
  rcases hm' with rfl|rfl|rfl|rfl|rfl
  ·exact z
  ·exact z
  ·exact h.2.1
  ·exact h.2.2
  ·exact z
 have cc:=csweep_any wa.heap.size tb (ad5 x k m) (ad_g5 k m HI.out.1).1 (ad_g5 k m HI.out.1).2 hKK (by show 5≤512;omega) 4 w6 HT6.out.1 (Hid.up_tz hT HT6.out.2)
 rw [(ad_sw x HI.out.2.1 HI.out.2.2).1,(ad_sw x HI.out.2.1 HI.out.2.2).2,HS.out] at cc
 refine cc.mono ?_
 rintro e w7 ⟨v6,rfl,hO,hB⟩
 obtain ⟨p6,c6,rfl,hc6⟩:=hO.form
 obtain ⟨q6,s0,u0,ep,x00,x01,hs0,hu0⟩:=hO.at 0 _ rfl
 obtain ⟨q7,s1,u1,ep',x10,x11,hs1,hu1⟩:=hO.at 1 _ rfl
 rw [ep] at ep'
 cases ep'
 subst ep
 obtain ⟨ps0,ns0,cs0,rfl⟩:=hs0.form_
 obtain ⟨pu0,nu0,cu0,rfl⟩:=hu0.form_
 obtain ⟨ps1,ns1,cs1,rfl⟩:=hs1.form_
 obtain ⟨pu1,nu1,cu1,rfl⟩:=hu1.form_
 have HB7:Hid (Below w.heap.size w w7):=bstep HT6.out.2 hB
 have HV0:Hid (Tn [1] [S] (.agg #[.slice ps0 ns0 cs0,.slice pu0 nu0 cu0]) w7):=⟨_,_,_,_,_,_,rfl,hs0.nums,hu0.nums⟩
 have HV1:Hid (Tn [1] [0] (.agg #[.slice ps1 ns1 cs1,.slice pu1 nu1 cu1]) w7):=⟨_,_,_,_,_,_,rfl,hs1.nums,hu1.nums⟩
 have z6:=cell_lt x00
 simp only [List.length_cons,List.length_nil,Nat.zero_add,Nat.reduceAdd] at hc6 ⊢
 clear cc hO hB HT6 hs0 hu0 hs1 hu1 hKK
 have cA:Hid (∀ W,Calls Tryz.prog 22 #[.int .i64 m,.int .i64 k] W fun e w'=>e = .returned (.int .i64 S)∧Below W.heap.size W w'):=fun W=>by
  have:=Rf.add_ref m k HI.out.2.2 HI.out.2.1 S HS.out W
  exact this
 have ck0:Hid (∀ W v,Below w7.heap.size w7 W→Tn [1] [S] v W→Calls Tryz.prog 16 #[.agg #[.slice ps0 ns0 cs0,.slice pu0 nu0 cu0],v] W fun e w'=>e = .returned (.bool true)∧Below W.heap.size W w'):=fun W v hW hv=>by
  have ca:=alike_tn (HV0.out.up hW) hv (by unfold Few;simp) (by unfold Few;simp)
  rw [decide_eq_true ⟨rfl,rfl⟩] at ca
  exact ca
 have ck1:Hid (∀ W v,Below w7.heap.size w7 W→Tn [1] [0] v W→Calls Tryz.prog 16 #[.agg #[.slice ps1 ns1 cs1,.slice pu1 nu1 cu1],v] W fun e w'=>e = .returned (.bool true)∧Below W.heap.size W w'):=fun W v hW hv=>by
  have ca:=alike_tn (HV1.out.up hW) hv (by unfold Few;simp) (by unfold Few;simp)
  rw [decide_eq_true ⟨rfl,rfl⟩] at ca
  exact ca
 go_wp2_with fail
 refine rel [⟨15,80,LitN [S]⟩,⟨16,81,Tn [1] [S]⟩,⟨24,89,LitN [0]⟩,⟨25,90,Tn [1] [0]⟩] 28 93 (by kernel_rfl) rfl rfl (by kernel_rfl) (by rfl) ?_ ?_
 ·intro e he v W W' h hb
  simp only [List.mem_cons,List.not_mem_nil,or_false] at he
  rcases he with rfl|rfl|rfl|rfl
  ·exact LitN.up h hb
  ·exact Tn.up h hb
  ·exact LitN.up h hb
  ·exact Tn.up h hb
 apply Exists.intro
 refine ⟨fun x=>?_,?_,?_⟩
 ·simp only [List.take_succ_cons,List.take_zero]
  iterate 14
   refine relQuiet rfl rfl ?_
   apply Exists.intro
   refine ⟨fun F hF hf K hK=>?_,?_⟩
   ·have hFc:=hF.cell
    have hFf:=hF.frozen
    go_big_quiet_op
    first|exact hK|(apply Exists.intro;refine ⟨fun _=>?_,?_⟩;(· fail);exact hK)
   (try simp only [Act.put,List.setIfInBounds_toArray,List.set_cons_zero,List.set_cons_succ])
  refine relQuiet rfl rfl ?_
  apply Exists.intro
  refine ⟨fun F hF hf K hK=>?_,?_⟩
  ·have hFc:=hF.cell
   have hFf:=hF.frozen
   go_big_quiet_op
   first|exact hK|(apply Exists.intro;refine ⟨fun _=>?_,?_⟩;(· exact hF.call (cA.out _));exact hK)
  (try simp only [Act.put,List.setIfInBounds_toArray,List.set_cons_zero,List.set_cons_succ])
  refine relTold rfl rfl ?_ ?_
  ·intro F hF hf d
   have hFc:=hF.cell
   have hFf:=hF.frozen
   simp [yieldsR,yieldsUpon,go_sem]
   exact ⟨⟨(F d).heap.size,rfl,nums_lit (k:=.i64) (F d) [S] 1 (0,0) rfl⟩,up_alloc _ _⟩
  (try simp only [Act.put,List.setIfInBounds_toArray,List.set_cons_zero,List.set_cons_succ])
  refine relTold rfl rfl ?_ ?_
  ·intro F hF hf d
   have hFc:=hF.cell
   have hFf:=hF.frozen
   have h9:=hf _ List.mem_cons_self (by rfl) d
   obtain ⟨g9,e9,n9⟩:=h9
   simp only [] at e9 n9
   rw [e9] at n9
   simp [yieldsR,yieldsUpon,go_sem,e9]
   refine (row11_any _ 1 1 [S] (F d) n9 (by decide)).mono ?_
   rintro e' w8 ⟨g8,rfl,ha8,hb8,_,_,hB8⟩
   exact ⟨_,rfl,⟨_,_,_,_,_,_,rfl,ha8,hb8⟩,hB8⟩
  (try simp only [Act.put,List.setIfInBounds_toArray,List.set_cons_zero,List.set_cons_succ])
  refine relQuiet rfl rfl ?_
  apply Exists.intro
  refine ⟨fun F hF hf K hK=>?_,?_⟩
  ·have hFc:=hF.cell
   have hFf:=hF.frozen
   go_big_quiet_op
   first|exact hK|(apply Exists.intro;refine ⟨fun _=>?_,?_⟩;(· exact hF.call (ck0.out _ _ (hF.below _) (hf _ (List.mem_cons_of_mem _ List.mem_cons_self) (by rfl) _)));exact hK)
  iterate 6
   (try simp only [Act.put,List.setIfInBounds_toArray,List.set_cons_zero,List.set_cons_succ])
   refine relQuiet rfl rfl ?_
   apply Exists.intro
   refine ⟨fun F hF hf K hK=>?_,?_⟩
   ·have hFc:=hF.cell
    have hFf:=hF.frozen
    go_big_quiet_op
    first|exact hK|(apply Exists.intro;refine ⟨fun _=>?_,?_⟩;(· fail);exact hK)
  (try simp only [Act.put,List.setIfInBounds_toArray,List.set_cons_zero,List.set_cons_succ])
  refine relTold rfl rfl ?_ ?_
  ·intro F hF hf d
   have hFc:=hF.cell
   have hFf:=hF.frozen
   simp [yieldsR,yieldsUpon,go_sem]
   exact ⟨⟨(F d).heap.size,rfl,nums_lit (k:=.i64) (F d) [0] 1 (0,0) rfl⟩,up_alloc _ _⟩
  (try simp only [Act.put,List.setIfInBounds_toArray,List.set_cons_zero,List.set_cons_succ])
  refine relTold rfl rfl ?_ ?_
  ·intro F hF hf d
   have hFc:=hF.cell
   have hFf:=hF.frozen
   have h9:=hf _ (List.mem_cons_of_mem _ (List.mem_cons_of_mem _ List.mem_cons_self)) (by rfl) d
   obtain ⟨g9,e9,n9⟩:=h9
   simp only [] at e9 n9
   rw [e9] at n9
   simp [yieldsR,yieldsUpon,go_sem,e9]
   refine (row11_any _ 1 1 [0] (F d) n9 (by decide)).mono ?_
   rintro e' w8 ⟨g8,rfl,ha8,hb8,_,_,hB8⟩
   exact ⟨_,rfl,⟨_,_,_,_,_,_,rfl,ha8,hb8⟩,hB8⟩
  (try simp only [Act.put,List.setIfInBounds_toArray,List.set_cons_zero,List.set_cons_succ])
  refine relQuiet rfl rfl ?_
  apply Exists.intro
  refine ⟨fun F hF hf K hK=>?_,?_⟩
  ·have hFc:=hF.cell
   have hFf:=hF.frozen
   go_big_quiet_op
   first|exact hK|(apply Exists.intro;refine ⟨fun _=>?_,?_⟩;(· exact hF.call (ck1.out _ _ (hF.below _) (hf _ (List.mem_cons_of_mem _ (List.mem_cons_of_mem _ (List.mem_cons_of_mem _ List.mem_cons_self))) (by rfl) _)));exact hK)
  (try simp only [Act.put,List.setIfInBounds_toArray,List.set_cons_zero,List.set_cons_succ])
  refine relQuiet rfl rfl ?_
  apply Exists.intro
  refine ⟨fun F hF hf K hK=>?_,?_⟩
  ·have hFc:=hF.cell
   have hFf:=hF.frozen
   go_big_quiet_op
   first|exact hK|(apply Exists.intro;refine ⟨fun _=>?_,?_⟩;(· fail);exact hK)
  (try simp only [Act.put,List.setIfInBounds_toArray,List.set_cons_zero,List.set_cons_succ])
  refine relEnd ?_
  exact rfl
 ·intro x
  simp only [putsK,List.foldl_cons,List.foldl_nil,Act.put,List.setIfInBounds_toArray,List.set_cons_zero,List.set_cons_succ]
 ·intro w9 xs hB9 hf
  simp only [List.drop_succ_cons,List.drop_zero]
  have HB9:Hid (Below w.heap.size w w9):=bstep HB7.out hB9
  clear hf hB9 x00 x01 x10 x11 z6
  go_wp2
  go_ret
  exact ⟨rfl,HB9.out⟩
end Go.Proofs.YtaiigfhicaelkaaGreatDoor.Wd
