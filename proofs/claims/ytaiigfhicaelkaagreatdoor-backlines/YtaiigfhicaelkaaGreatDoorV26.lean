/- BackLines: each number's gradient is what it is multiplied by. -/
import Derived.Test.YtaiigfhicaelkaaGreatDoorV16
import Derived.Test.YtaiigfhicaelkaaGreatDoorV25
set_option linter.unusedVariables false
set_option linter.unusedSimpArgs false
set_option maxHeartbeats 16000000
set_option maxRecDepth 16000
namespace Go.Proofs.YtaiigfhicaelkaaGreatDoor.Wd
open Go.RowKit Fx
theorem blines_walk (w:World) (hT:Hid (Tz w)) (za:Nat→Int) (n c:Nat) (p:Option Addr) (zb:Nat→Int) (n2 c2:Nat) (p2:Option Addr) (r1:RowN .i64 w p n c za) (r2:RowN .i64 w p2 n2 c2 zb):
  Calls Tryz.prog 6 #[.slice p n c,.slice p2 n2 c2] w fun e w'=>e = .returned (.bool true)∧Below w.heap.size w w':=by
 have HA:Hid (Nums .i64 w (.slice p n c) (nlst n za)∧Nums .i64 w (.slice p2 n2 c2) (nlst n2 zb)):=⟨r1.nums,r2.nums⟩
 have HI:Hid (RI (nlst n za)∧RI (nlst n2 zb)∧(nlst n za).length=n∧(nlst n2 zb).length=n2):=⟨r1.riI,r2.riI,nlst_len _ _,nlst_len _ _⟩
 have hf1:(n:Int)≤9223372036854775807:=by have:=r1.few;unfold Few at this;rw [nlst_len] at this;omega
 have hf2:(n2:Int)≤9223372036854775807:=by have:=r2.few;unfold Few at this;rw [nlst_len] at this;omega
 obtain ⟨x,ex⟩:∃ x,nlst n za=x:=⟨_,rfl⟩
 obtain ⟨y,ey⟩:∃ y,nlst n2 zb=y:=⟨_,rfl⟩
 rw [ex,ey] at HA HI
 clear ex ey r1 r2
 haveI:Nonempty World:=⟨w⟩
 go_enter Tryz.func6,Tryz.ntmps6
 go_wp2_with fail
 refine (awake11_any w hT).mono ?_
 rintro e wa ⟨rfl,hBa⟩
 have HB_wa:Hid (Below w.heap.size w wa):=hBa
 clear hBa
 by_cases hn1:n < 1
 ·obtain rfl:n=0:=by omega
  go_wp2
  go_ret
  exact ⟨rfl,HB_wa.out⟩
 have hd1:decide ((n:Int) < 1)=false:=decide_eq_false (by omega)
 by_cases hn2:30 < n
 ·have hd2:decide ((30:Int) < (n:Int))=true:=decide_eq_true (by omega)
  have hd2n:decide (30 < n)=true:=decide_eq_true (by omega)
  go_wp2
  go_ret
  exact ⟨rfl,HB_wa.out⟩
 have hd2:decide ((30:Int) < (n:Int))=false:=decide_eq_false (by omega)
 have hd2n:decide (30 < n)=false:=decide_eq_false (by omega)
 by_cases hn3:n2=n
 case neg=>
  have hd3:((n2:Int) != (n:Int))=true:=by simp;omega
  have hd3n:(n2 != n)=true:=by simp;omega
  go_wp2
  go_ret
  exact ⟨rfl,HB_wa.out⟩
 obtain rfl:=hn3
 have HL:Hid (Lns n2 x y):=⟨HI.out.2.2.1,HI.out.2.2.2,by omega,by omega,HI.out.1,HI.out.2.1⟩
 have HR:Hid (RI [(n2:Int)]):=fun q hq=>by simp at hq;omega
 have Hn:Hid (n2≤30):=by show n2≤30;omega
 clear HI
 go_wp2_with fail
 refine (cnew_any wa).mono ?_
 rintro e w1 ⟨tb,rfl,hT1,hB1⟩
 have HT1:Hid (TapC w1 wa.heap.size tb []∧Below w.heap.size w w1):=⟨hT1,bstep HB_wa.out hB1⟩
 clear hT1 hB1
 go_wp2_with fail
 refine (row11_any p n2 c x w1 (HA.out.1.up HT1.out.2) (by have:=Hn.out;omega)).mono ?_
 rintro e r2 ⟨g2,rfl,ha,hb,_,_,hB⟩
 go_wp2_with fail
 have cc:=cleaf_any wa.heap.size tb [] NodesG.nil _ _ 1 1 n2 c [(n2:Int)] x HR.out HL.out.rx r2 (HT1.out.1.up hB) ha hb
 rw [HL.out.l1.1,HL.out.l1.2.1,HL.out.l1.2.2] at cc
 refine cc.mono ?_
 rintro e w2 ⟨rfl,hT',hC',_⟩
 have HT2:Hid (TapC w2 wa.heap.size tb (ln1 n2 x)∧Below w.heap.size w w2):=⟨hT',(bstep HT1.out.2 hB).trans (hC'.mono HB_wa.out.size)⟩
 clear cc hT' hC' hB ha hb HT1
 go_wp2_with fail
 refine (row11_any p2 n2 c2 y w2 (HA.out.2.up HT2.out.2) (by have:=Hn.out;omega)).mono ?_
 rintro e r3 ⟨g3,rfl,ha,hb,_,_,hB⟩
 go_wp2_with fail
 have cc:=cleaf_any wa.heap.size tb (ln1 n2 x) HL.out.g1.1 _ _ 1 1 n2 c2 [(n2:Int)] y HR.out HL.out.rk r3 (HT2.out.1.up hB) ha hb
 rw [HL.out.l2.1,HL.out.l2.2.1,HL.out.l2.2.2] at cc
 refine cc.mono ?_
 rintro e w3 ⟨rfl,hT',hC',_⟩
 have HT3:Hid (TapC w3 wa.heap.size tb (ln2 n2 x y)∧Below w.heap.size w w3):=⟨hT',(bstep HT2.out.2 hB).trans (hC'.mono HB_wa.out.size)⟩
 clear cc hT' hC' hB ha hb HT2
 go_wp2_with fail
 have cc:=cdo_any wa.heap.size tb (ln2 n2 x y) HL.out.g2.1 4 0 1 0 (by unfold InR;omega) w3 HT3.out.1 (Hid.up_tz hT HT3.out.2)
 rw [HL.out.l3.1,HL.out.l3.2.1,HL.out.l3.2.2] at cc
 refine cc.mono ?_
 rintro e w4 ⟨rfl,hT',hC',_⟩
 have HT4:Hid (TapC w4 wa.heap.size tb (ln3 n2 x y)∧Below w.heap.size w w4):=⟨hT',HT3.out.2.trans (hC'.mono HB_wa.out.size)⟩
 clear cc hT' hC' HT3
 go_wp2_with fail
 have cc:=cdo_any wa.heap.size tb (ln3 n2 x y) HL.out.g3.1 9 2 (-1) 0 (by unfold InR;omega) w4 HT4.out.1 (Hid.up_tz hT HT4.out.2)
 rw [HL.out.l4.1,HL.out.l4.2.1,HL.out.l4.2.2] at cc
 refine cc.mono ?_
 rintro e w5 ⟨rfl,hT',hC',_⟩
 have HT5:Hid (TapC w5 wa.heap.size tb (ln4 n2 x y)∧Below w.heap.size w w5):=⟨hT',HT4.out.2.trans (hC'.mono HB_wa.out.size)⟩
 clear cc hT' hC' HT4
 go_wp2_with fail
 have cc:=csweep_any wa.heap.size tb (ln4 n2 x y) HL.out.g4.1 HL.out.g4.2 (NodesK.of rfl) (by show 4≤512;omega) 3 w5 HT5.out.1 (Hid.up_tz hT HT5.out.2)
 rw [HL.out.sw.1,HL.out.sw.2] at cc
 refine cc.mono ?_
 rintro e w6 ⟨v6,rfl,hO,hB⟩
 obtain ⟨p6,c6,rfl,hc6⟩:=hO.form
 obtain ⟨q6,s0,u0,ep,x00,x01,hs0,hu0⟩:=hO.at 0 _ rfl
 obtain ⟨q7,s1,u1,ep',x10,x11,hs1,hu1⟩:=hO.at 1 _ rfl
 rw [ep] at ep'
 cases ep'
 subst ep
 obtain ⟨ps0,ns0,cs0,rfl⟩:=hs0.form_
 obtain ⟨pu0,nu0,cu0,rfl⟩:=hu0.form_
 obtain ⟨ps1,ns1,cs1,rfl⟩:=hs1.form_
 obtain ⟨pu1,nu1,cu1,rfl⟩:=hu1.form_
 have HB6:Hid (Below w.heap.size w w6):=bstep HT5.out.2 hB
 have HV0:Hid (Tn [(n2:Int)] y (.agg #[.slice ps0 ns0 cs0,.slice pu0 nu0 cu0]) w6):=⟨_,_,_,_,_,_,rfl,hs0.nums,hu0.nums⟩
 have HV1:Hid (Tn [(n2:Int)] x (.agg #[.slice ps1 ns1 cs1,.slice pu1 nu1 cu1]) w6):=⟨_,_,_,_,_,_,rfl,hs1.nums,hu1.nums⟩
 have HF:Hid (Few [(n2:Int)]∧Few x∧Few y):=by
  have a:=HL.out.hx
  have b:=HL.out.hk
  have c:=Hn.out
  exact ⟨by unfold Few;simp,by unfold Few;omega,by unfold Few;omega⟩
 have z6:=cell_lt x00
 simp only [List.length_cons,List.length_nil,Nat.zero_add,Nat.reduceAdd] at hc6 ⊢
 clear cc hO hB HT5 hs0 hu0 hs1 hu1
 have ck0:Hid (∀ W v,Below w6.heap.size w6 W→Tn [(n2:Int)] y v W→Calls Tryz.prog 16 #[.agg #[.slice ps0 ns0 cs0,.slice pu0 nu0 cu0],v] W fun e w'=>e = .returned (.bool true)∧Below W.heap.size W w'):=fun W v hW hv=>by
  have ca:=alike_tn (HV0.out.up hW) hv HF.out.1 HF.out.2.2
  rw [decide_eq_true ⟨rfl,rfl⟩] at ca
  exact ca
 have ck1:Hid (∀ W v,Below w6.heap.size w6 W→Tn [(n2:Int)] x v W→Calls Tryz.prog 16 #[.agg #[.slice ps1 ns1 cs1,.slice pu1 nu1 cu1],v] W fun e w'=>e = .returned (.bool true)∧Below W.heap.size W w'):=fun W v hW hv=>by
  have ca:=alike_tn (HV1.out.up hW) hv HF.out.1 HF.out.2.1
  rw [decide_eq_true ⟨rfl,rfl⟩] at ca
  exact ca
 have cr0:Hid (∀ W,Below w6.heap.size w6 W→Calls Tryz.prog 12 #[.slice p2 n2 c2] W fun e w'=>∃ v,e = .returned v∧Tn [(n2:Int)] y v w'∧Below W.heap.size W w'):=fun W hW=>by
  refine (row11_any p2 n2 c2 y W (HA.out.2.up (bstep HB6.out hW)) (by have:=Hn.out;omega)).mono ?_
  rintro e w' ⟨g,rfl,ha,hb,_,_,hB⟩
  exact ⟨_,rfl,⟨_,_,_,_,_,_,rfl,ha,hb⟩,hB⟩
 have cr1:Hid (∀ W,Below w6.heap.size w6 W→Calls Tryz.prog 12 #[.slice p n2 c] W fun e w'=>∃ v,e = .returned v∧Tn [(n2:Int)] x v w'∧Below W.heap.size W w'):=fun W hW=>by
  refine (row11_any p n2 c x W (HA.out.1.up (bstep HB6.out hW)) (by have:=Hn.out;omega)).mono ?_
  rintro e w' ⟨g,rfl,ha,hb,_,_,hB⟩
  exact ⟨_,rfl,⟨_,_,_,_,_,_,rfl,ha,hb⟩,hB⟩
 go_wp2_with fail
 refine rel [⟨17,84,Tn [(n2:Int)] y⟩,⟨26,93,Tn [(n2:Int)] x⟩] 30 96 (by kernel_rfl) rfl rfl (by kernel_rfl) (by rfl) ?_ ?_
 ·intro e he v W W' h hb
  simp only [List.mem_cons,List.not_mem_nil,or_false] at he
  rcases he with rfl|rfl
  ·exact Tn.up h hb
  ·exact Tn.up h hb
 apply Exists.intro
 refine ⟨fun x=>?_,?_,?_⟩
 ·simp only [List.take_succ_cons,List.take_zero]
  iterate 17
   refine relQuiet rfl rfl ?_
   apply Exists.intro
   refine ⟨fun F hF hf K hK=>?_,?_⟩
   ·have hFc:=hF.cell
    have hFf:=hF.frozen
    go_big_quiet_op
    first|exact hK|(apply Exists.intro;refine ⟨fun _=>?_,?_⟩;(· fail);exact hK)
   (try simp only [Act.put,List.setIfInBounds_toArray,List.set_cons_zero,List.set_cons_succ])
  refine relTold rfl rfl ?_ ?_
  ·intro F hF hf d
   have hFc:=hF.cell
   have hFf:=hF.frozen
   simp [yieldsR,yieldsUpon,go_sem]
   exact (cr0.out (F d) (hF.below d))
  (try simp only [Act.put,List.setIfInBounds_toArray,List.set_cons_zero,List.set_cons_succ])
  refine relQuiet rfl rfl ?_
  apply Exists.intro
  refine ⟨fun F hF hf K hK=>?_,?_⟩
  ·have hFc:=hF.cell
   have hFf:=hF.frozen
   go_big_quiet_op
   first|exact hK|(apply Exists.intro;refine ⟨fun _=>?_,?_⟩;(· exact hF.call (ck0.out _ _ (hF.below _) (hf _ List.mem_cons_self (by rfl) _)));exact hK)
  iterate 7
   (try simp only [Act.put,List.setIfInBounds_toArray,List.set_cons_zero,List.set_cons_succ])
   refine relQuiet rfl rfl ?_
   apply Exists.intro
   refine ⟨fun F hF hf K hK=>?_,?_⟩
   ·have hFc:=hF.cell
    have hFf:=hF.frozen
    go_big_quiet_op
    first|exact hK|(apply Exists.intro;refine ⟨fun _=>?_,?_⟩;(· fail);exact hK)
  (try simp only [Act.put,List.setIfInBounds_toArray,List.set_cons_zero,List.set_cons_succ])
  refine relTold rfl rfl ?_ ?_
  ·intro F hF hf d
   have hFc:=hF.cell
   have hFf:=hF.frozen
   simp [yieldsR,yieldsUpon,go_sem]
   exact (cr1.out (F d) (hF.below d))
  (try simp only [Act.put,List.setIfInBounds_toArray,List.set_cons_zero,List.set_cons_succ])
  refine relQuiet rfl rfl ?_
  apply Exists.intro
  refine ⟨fun F hF hf K hK=>?_,?_⟩
  ·have hFc:=hF.cell
   have hFf:=hF.frozen
   go_big_quiet_op
   first|exact hK|(apply Exists.intro;refine ⟨fun _=>?_,?_⟩;(· exact hF.call (ck1.out _ _ (hF.below _) (hf _ (List.mem_cons_of_mem _ List.mem_cons_self) (by rfl) _)));exact hK)
  iterate 2
   (try simp only [Act.put,List.setIfInBounds_toArray,List.set_cons_zero,List.set_cons_succ])
   refine relQuiet rfl rfl ?_
   apply Exists.intro
   refine ⟨fun F hF hf K hK=>?_,?_⟩
   ·have hFc:=hF.cell
    have hFf:=hF.frozen
    go_big_quiet_op
    first|exact hK|(apply Exists.intro;refine ⟨fun _=>?_,?_⟩;(· fail);exact hK)
  (try simp only [Act.put,List.setIfInBounds_toArray,List.set_cons_zero,List.set_cons_succ])
  refine relEnd ?_
  exact rfl
 ·intro x
  simp only [putsK,List.foldl_cons,List.foldl_nil,Act.put,List.setIfInBounds_toArray,List.set_cons_zero,List.set_cons_succ]
 ·intro w9 xs hB9 hf
  simp only [List.drop_succ_cons,List.drop_zero]
  have HB9:Hid (Below w.heap.size w w9):=bstep HB6.out hB9
  clear hf hB9 x00 x01 x10 x11 z6
  go_wp2
  go_ret
  exact ⟨rfl,HB9.out⟩
end Go.Proofs.YtaiigfhicaelkaaGreatDoor.Wd
