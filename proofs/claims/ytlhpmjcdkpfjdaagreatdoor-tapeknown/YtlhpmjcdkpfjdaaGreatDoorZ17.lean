/- The law's awake: it tells true. -/
import Derived.Test.YtlhpmjcdkpfjdaaGreatDoorZ16
namespace Go.Proofs.YtlhpmjcdkpfjdaaGreatDoor.Wd
open Go.RowKit Fx
set_option linter.unusedVariables false
set_option linter.unusedSimpArgs false
theorem aw1:leafR [] [1] [8589934592]=0∧leafE [] [1] [8589934592]=0∧leafN [] [1] [8589934592] = [⟨1,-1,-1,0,[1],[8589934592]⟩]:=⟨by decide +kernel,by decide +kernel,if_pos ⟨by decide +kernel,by decide +kernel⟩⟩
theorem aw2:leafR ([⟨1,-1,-1,0,[1],[8589934592]⟩]:List Nd) [1] [12884901888]=1∧leafE ([⟨1,-1,-1,0,[1],[8589934592]⟩]:List Nd) [1] [12884901888]=0∧leafN ([⟨1,-1,-1,0,[1],[8589934592]⟩]:List Nd) [1] [12884901888]=([⟨1,-1,-1,0,[1],[8589934592]⟩,⟨1,-1,-1,0,[1],[12884901888]⟩]:List Nd):=⟨by decide +kernel,by decide +kernel,if_pos ⟨by decide +kernel,by decide +kernel⟩⟩
theorem aw3:doR ([⟨1,-1,-1,0,[1],[8589934592]⟩,⟨1,-1,-1,0,[1],[12884901888]⟩]:List Nd) 4 0 1 0=2∧doE ([⟨1,-1,-1,0,[1],[8589934592]⟩,⟨1,-1,-1,0,[1],[12884901888]⟩]:List Nd) 4 0 1 0=0∧doN ([⟨1,-1,-1,0,[1],[8589934592]⟩,⟨1,-1,-1,0,[1],[12884901888]⟩]:List Nd) 4 0 1 0 = [⟨1,-1,-1,0,[1],[8589934592]⟩,⟨1,-1,-1,0,[1],[12884901888]⟩,⟨4,0,1,0,[1],[25769803776]⟩]:=by
 have h0:doP ([⟨1,-1,-1,0,[1],[8589934592]⟩,⟨1,-1,-1,0,[1],[12884901888]⟩]:List Nd) 4 0 1 0:=by decide +kernel
 refine ⟨if_pos h0,by decide +kernel,(if_pos h0).trans ?_⟩
 have h1:rkD 4 [1] [8589934592] [1] [12884901888] 0 = [1]:=by decide +kernel
 have h2:rkV 4 [1] [8589934592] [1] [12884901888] 0 = [25769803776]:=by decide +kernel
 show ([⟨1,-1,-1,0,[1],[8589934592]⟩,⟨1,-1,-1,0,[1],[12884901888]⟩]:List Nd)++[⟨4,0,1,0,rkD 4 [1] [8589934592] [1] [12884901888] 0,rkV 4 [1] [8589934592] [1] [12884901888] 0⟩]=_
 rw [h1,h2]
 rfl
theorem ng1:NodesG [⟨1,-1,-1,0,[1],[8589934592]⟩]:=by
 have:=NodesG.leaf (d:=[1]) (x:=[8589934592]) NodesG.nil (RI_kern (by decide +kernel))
 rwa [aw1.2.2] at this
theorem ng2:NodesG [⟨1,-1,-1,0,[1],[8589934592]⟩,⟨1,-1,-1,0,[1],[12884901888]⟩]:=by
 have:=NodesG.leaf (d:=[1]) (x:=[12884901888]) ng1 (RI_kern (by decide +kernel))
 rwa [aw2.2.2] at this
theorem ng3:NodesG [⟨1,-1,-1,0,[1],[8589934592]⟩,⟨1,-1,-1,0,[1],[12884901888]⟩,⟨4,0,1,0,[1],[25769803776]⟩]:=by
 have:=NodesG.do (op:=4) (a:=0) (b:=1) (k:=0) ng2
 rwa [aw3.2.2] at this
set_option maxRecDepth 8000 in
set_option maxHeartbeats 8000000 in
theorem awake10_any (w:World) (hT:Hid (Tz w)):
  Calls Tryz.prog 8 #[] w fun e w'=>e = .returned (.bool true)∧Below w.heap.size w w':=by
 haveI:Nonempty World:=⟨w⟩
 go_enter Tryz.func8,Tryz.ntmps8
 go_wp2_with fail
 refine (cnew_any w).mono ?_
 rintro e w1 ⟨tb,rfl,hT1,hB1⟩
 have HT1:Hid (TapC w1 w.heap.size tb []∧Below w.heap.size w w1):=⟨hT1,hB1⟩
 clear hT1 hB1
 go_wp2_with fail
 generalize hK2:World.alloc _ _=K2
 have hL2:Below w1.heap.size w1 K2:=by rw [← hK2];exact up_alloc w1 _
 have l2:Nums .i64 K2 (.slice (some ⟨w1.heap.size,0,none⟩) 1 1) [8589934592]:=by rw [← hK2];exact nums_lit (k:=.i64) w1 [8589934592] 1 (0,0) rfl
 clear hK2
 refine (row10_any _ 1 1 [8589934592] K2 l2 (by decide)).mono ?_
 rintro e r2 ⟨g2,rfl,ha2,hb2,_,_,hB2⟩
 go_wp2_with fail
 have cc:=cleaf_any w.heap.size tb [] NodesG.nil _ _ 1 1 1 1 [1] [8589934592] (RI_kern (by decide +kernel)) (RI_kern (by decide +kernel)) r2 (HT1.out.1.up (bstep hL2 hB2)) ha2 hb2
 rw [aw1.1,aw1.2.1,aw1.2.2] at cc
 refine cc.mono ?_
 rintro e w2 ⟨rfl,hT2,hC2,_⟩
 have HT2:Hid (TapC w2 w.heap.size tb [⟨1,-1,-1,0,[1],[8589934592]⟩]∧Below w.heap.size w w2):=⟨hT2,(bstep HT1.out.2 (bstep hL2 hB2)).trans hC2⟩
 clear cc hT2 hC2 hB2 hL2 l2 ha2 hb2 HT1
 go_wp2_with fail
 generalize hK3:World.alloc _ _=K3
 have hL3:Below w2.heap.size w2 K3:=by rw [← hK3];exact up_alloc w2 _
 have l3:Nums .i64 K3 (.slice (some ⟨w2.heap.size,0,none⟩) 1 1) [12884901888]:=by rw [← hK3];exact nums_lit (k:=.i64) w2 [12884901888] 1 (0,0) rfl
 clear hK3
 refine (row10_any _ 1 1 [12884901888] K3 l3 (by decide)).mono ?_
 rintro e r3 ⟨g3,rfl,ha3,hb3,_,_,hB3⟩
 go_wp2_with fail
 have cc:=cleaf_any w.heap.size tb [⟨1,-1,-1,0,[1],[8589934592]⟩] ng1 _ _ 1 1 1 1 [1] [12884901888] (RI_kern (by decide +kernel)) (RI_kern (by decide +kernel)) r3 (HT2.out.1.up (bstep hL3 hB3)) ha3 hb3
 rw [aw2.1,aw2.2.1,aw2.2.2] at cc
 refine cc.mono ?_
 rintro e w3 ⟨rfl,hT3,hC3,_⟩
 have HT3:Hid (TapC w3 w.heap.size tb [⟨1,-1,-1,0,[1],[8589934592]⟩,⟨1,-1,-1,0,[1],[12884901888]⟩]∧Below w.heap.size w w3):=⟨hT3,(bstep HT2.out.2 (bstep hL3 hB3)).trans hC3⟩
 clear cc hT3 hC3 hB3 hL3 l3 ha3 hb3 HT2
 go_wp2_with fail
 have cc:=cdo_any w.heap.size tb [⟨1,-1,-1,0,[1],[8589934592]⟩,⟨1,-1,-1,0,[1],[12884901888]⟩] ng2 4 0 1 0 (by unfold InR;omega) w3 HT3.out.1 (Hid.up_tz hT HT3.out.2)
 rw [aw3.1,aw3.2.1,aw3.2.2] at cc
 refine cc.mono ?_
 rintro e w4 ⟨rfl,hT4,hC4,_⟩
 have HT4:Hid (TapC w4 w.heap.size tb [⟨1,-1,-1,0,[1],[8589934592]⟩,⟨1,-1,-1,0,[1],[12884901888]⟩,⟨4,0,1,0,[1],[25769803776]⟩]∧Below w.heap.size w w4):=⟨hT4,HT3.out.2.trans hC4⟩
 clear cc hT4 hC4 HT3
 go_wp2_with fail
 refine (cvalue_any w.heap.size tb [⟨1,-1,-1,0,[1],[8589934592]⟩,⟨1,-1,-1,0,[1],[12884901888]⟩,⟨4,0,1,0,[1],[25769803776]⟩] ng3 2 _ rfl w4 HT4.out.1).mono ?_
 rintro e w5 ⟨v5,rfl,⟨s5,t5,rfl,hs5,ht5⟩,hB5⟩
 obtain ⟨ps5,ns5,cs5,rfl⟩:=hs5.form_
 obtain ⟨pt5,nt5,ct5,rfl⟩:=ht5.form_
 go_wp2_with fail
 generalize hW5:World.alloc _ _=W5
 have hL5:Below w5.heap.size w5 W5:=by rw [← hW5];exact up_alloc w5 _
 have X5:Hid (Cel W5 w5.heap.size (.slice ps5 ns5 cs5) (.slice pt5 nt5 ct5)):=by show Cel _ _ _ _;unfold Cel;rw [← hW5];simp [go_sem]
 have HT5:Hid (TapC W5 w.heap.size tb [⟨1,-1,-1,0,[1],[8589934592]⟩,⟨1,-1,-1,0,[1],[12884901888]⟩,⟨4,0,1,0,[1],[25769803776]⟩]∧Below w.heap.size w W5):=⟨(HT4.out.1.up hB5).up hL5,bstep HT4.out.2 (bstep hB5 hL5)⟩
 have HV5:Hid (Tn [1] [25769803776] (.agg #[.slice ps5 ns5 cs5,.slice pt5 nt5 ct5]) W5):=⟨_,_,_,_,_,_,rfl,hs5.nums.up hL5,ht5.nums.up hL5⟩
 clear hs5 ht5 hB5 hW5 hL5 HT4
 have cl:Hid (∀ W,Below W5.heap.size W5 W→Calls Tryz.prog 17 #[.pointer (some ⟨tb,0,none⟩)] W fun e w'=>e = .returned (.int .i64 3)∧w'=W):=fun W hW=>clen_any w.heap.size tb [⟨1,-1,-1,0,[1],[8589934592]⟩,⟨1,-1,-1,0,[1],[12884901888]⟩,⟨4,0,1,0,[1],[25769803776]⟩] W (HT5.out.1.up hW)
 have ck:Hid (∀ W v,Below W5.heap.size W5 W→Tn [1] [25769803776] v W→Calls Tryz.prog 18 #[.agg #[.slice ps5 ns5 cs5,.slice pt5 nt5 ct5],v] W fun e w'=>e = .returned (.bool true)∧Below W.heap.size W w'):=fun W v hW hv=>by
  have ca:=alike_tn (HV5.out.up hW) hv (by unfold Few;simp) (by unfold Few;simp)
  rw [decide_eq_true ⟨rfl,rfl⟩] at ca
  exact ca
 obtain ⟨x50,x51,_,_⟩:=X5.out
 have x5z:=cell_lt x50
 refine rel [⟨27,67,LitN [25769803776]⟩,⟨28,68,Tn [1] [25769803776]⟩] 36 76 (by kernel_rfl) rfl rfl (by kernel_rfl) (by rfl) ?_ ?_
 ·intro e he v W W' h hb
  simp only [List.mem_cons,List.not_mem_nil,or_false] at he
  rcases he with rfl|rfl
  ·exact LitN.up h hb
  ·exact Tn.up h hb
 apply Exists.intro
 refine ⟨fun x=>?_,?_,?_⟩
 ·simp only [List.take_succ_cons,List.take_zero]
  iterate 27
   refine relQuiet rfl rfl ?_
   apply Exists.intro
   refine ⟨fun F hF hf K hK=>?_,?_⟩
   ·have hFc:=hF.cell
    have hFf:=hF.frozen
    go_big_quiet_op
    first|exact hK|(apply Exists.intro;refine ⟨fun _=>?_,?_⟩;(· fail);exact hK)
   (try simp only [Act.put,List.setIfInBounds_toArray,List.set_cons_zero,List.set_cons_succ])
  refine relTold rfl rfl ?_ ?_
  ·intro F hF hf d
   have hFc:=hF.cell
   have hFf:=hF.frozen
   simp [yieldsR,yieldsUpon,go_sem]
   exact ⟨⟨(F d).heap.size,rfl,nums_lit (k:=.i64) (F d) [25769803776] 1 (0,0) rfl⟩,up_alloc _ _⟩
  (try simp only [Act.put,List.setIfInBounds_toArray,List.set_cons_zero,List.set_cons_succ])
  refine relTold rfl rfl ?_ ?_
  ·intro F hF hf d
   have hFc:=hF.cell
   have hFf:=hF.frozen
   have h9:=hf _ List.mem_cons_self (by rfl) d
   obtain ⟨g9,e9,n9⟩:=h9
   simp only [] at e9 n9
   rw [e9] at n9
   simp [yieldsR,yieldsUpon,go_sem,e9]
   refine (row10_any _ 1 1 [25769803776] (F d) n9 (by decide)).mono ?_
   rintro e' w8 ⟨g8,rfl,ha8,hb8,_,_,hB8⟩
   exact ⟨_,rfl,⟨_,_,_,_,_,_,rfl,ha8,hb8⟩,hB8⟩
  (try simp only [Act.put,List.setIfInBounds_toArray,List.set_cons_zero,List.set_cons_succ])
  refine relQuiet rfl rfl ?_
  apply Exists.intro
  refine ⟨fun F hF hf K hK=>?_,?_⟩
  ·have hFc:=hF.cell
   have hFf:=hF.frozen
   go_big_quiet_op
   first|exact hK|(apply Exists.intro;refine ⟨fun _=>?_,?_⟩;(· exact hF.call (ck.out _ _ (hF.below _) (hf _ (List.mem_cons_of_mem _ List.mem_cons_self) (by rfl) _)));exact hK)
  iterate 3
   (try simp only [Act.put,List.setIfInBounds_toArray,List.set_cons_zero,List.set_cons_succ])
   refine relQuiet rfl rfl ?_
   apply Exists.intro
   refine ⟨fun F hF hf K hK=>?_,?_⟩
   ·have hFc:=hF.cell
    have hFf:=hF.frozen
    go_big_quiet_op
    first|exact hK|(apply Exists.intro;refine ⟨fun _=>?_,?_⟩;(· fail);exact hK)
  (try simp only [Act.put,List.setIfInBounds_toArray,List.set_cons_zero,List.set_cons_succ])
  refine relQuiet rfl rfl ?_
  apply Exists.intro
  refine ⟨fun F hF hf K hK=>?_,?_⟩
  ·have hFc:=hF.cell
   have hFf:=hF.frozen
   go_big_quiet_op
   first|exact hK|(apply Exists.intro;refine ⟨fun _=>?_,?_⟩;(· exact hF.same (cl.out _ (hF.below _)));exact hK)
  iterate 2
   (try simp only [Act.put,List.setIfInBounds_toArray,List.set_cons_zero,List.set_cons_succ])
   refine relQuiet rfl rfl ?_
   apply Exists.intro
   refine ⟨fun F hF hf K hK=>?_,?_⟩
   ·have hFc:=hF.cell
    have hFf:=hF.frozen
    go_big_quiet_op
    first|exact hK|(apply Exists.intro;refine ⟨fun _=>?_,?_⟩;(· fail);exact hK)
  (try simp only [Act.put,List.setIfInBounds_toArray,List.set_cons_zero,List.set_cons_succ])
  refine relEnd ?_
  exact rfl
 ·intro x
  simp only [putsK,List.foldl_cons,List.foldl_nil,Act.put,List.setIfInBounds_toArray,List.set_cons_zero,List.set_cons_succ]
 ·intro w9 xs hB9 hf
  simp only [List.drop_succ_cons,List.drop_zero]
  have HB9:Hid (Below w.heap.size w w9):=bstep HT5.out.2 hB9
  clear hf hB9 x50 x51 x5z
  go_wp2
  go_ret
  exact ⟨rfl,HB9.out⟩
end Go.Proofs.YtlhpmjcdkpfjdaaGreatDoor.Wd
