/- TapeKeeps: what was handed in, and what was told, may be changed: the tape's own stays. -/
import Derived.Test.YtlhpmjcdkpfjdaaGreatDoorZ17
namespace Go.Proofs.YtlhpmjcdkpfjdaaGreatDoor.Wd
open Go.RowKit Fx
set_option linter.unusedVariables false
set_option linter.unusedSimpArgs false
theorem keep_is {x:List Int} {n:Nat} (h:x.length=n) (h1:1≤n) (h2:n≤4096):isP [(n:Int)] x:=by
 have e:prodN [n]=n:=by simp [prodN]
 have en:ntl [(n:Int)] = [n]:=ntl_itl [n]
 unfold isP
 rw [en,e]
 exact ⟨⟨by simp,fun y hy=>by simp at hy;omega,by rw [e];exact h2⟩,h⟩
set_option maxRecDepth 8000 in
set_option maxHeartbeats 8000000 in
theorem tkeep_walk (w:World) (hT:Hid (Tz w)) (za:Nat→Int) (n c:Nat) (p:Option Addr) (r1:RowN .i64 w p n c za):
  Calls Tryz.prog 6 #[.slice p n c] w fun e w'=>e = .returned (.bool true)∧Below w.heap.size w w':=by
 have HA:Hid (Nums .i64 w (.slice p n c) (nlst n za)):=r1.nums
 have HI:Hid (RI (nlst n za)∧(nlst n za).length=n):=⟨r1.riI,nlst_len _ _⟩
 have hfew:(n:Int)≤9223372036854775807:=by have:=r1.few;unfold Few at this;rw [nlst_len] at this;omega
 obtain ⟨yy,ey⟩:∃ x,nlst n za=x:=⟨_,rfl⟩
 rw [ey] at HA HI
 clear ey r1
 haveI:Nonempty World:=⟨w⟩
 go_enter Tryz.func6,Tryz.ntmps6
 go_wp2_with fail
 refine (awake10_any w hT).mono ?_
 rintro e wa ⟨rfl,hBa⟩
 have HBa:Hid (Below w.heap.size w wa):=hBa
 clear hBa
 by_cases hn1:n < 1
 ·obtain rfl:n=0:=by omega
  go_wp2
  go_ret
  exact ⟨rfl,HBa.out⟩
 have hd1:decide ((n:Int) < 1)=false:=decide_eq_false (by omega)
 by_cases hn2:50 < n
 ·have hd2:decide ((50:Int) < (n:Int))=true:=decide_eq_true (by omega)
  have hd2n:decide (50 < n)=true:=decide_eq_true (by omega)
  go_wp2
  go_ret
  exact ⟨rfl,HBa.out⟩
 have hd2:decide ((50:Int) < (n:Int))=false:=decide_eq_false (by omega)
 have hd2n:decide (50 < n)=false:=decide_eq_false (by omega)
 have hb:1≤(n:Int)∧(n:Int)≤50:=by omega
 have HL:Hid (1≤n∧n≤50):=by show _∧_;omega
 clear hn1 hn2
 have hA:=HA.out.up HBa.out
 go_wp2_with (at_builtin;refine wpList_appendK fixT (by decide) rfl (.tmp 21) (.tmp 22) rfl wa.heap.size _ [] rfl (own_lit (k:=.i64) (e:=33) wa [] 0 rfl (by decide)) _ yy rfl (hA.up (up_alloc wa _)) (by have h1:=HL.out;have h2:=HI.out.2;simp;omega) (by rw [size_alloc];omega) wa (up_alloc wa _) ?_;intro v2 w2 HO2 hB2)
 rw [List.nil_append] at HO2
 have hlen:0 < yy.length:=by have h1:=HL.out;have h2:=HI.out.2;omega
 obtain ⟨g2,c2,ev2,hg2⟩:=HO2.out.at hlen
 rw [HI.out.2] at ev2
 subst ev2
 have HB2:Hid (Below w.heap.size w w2):=bstep HBa.out hB2
 have hz2:=HO2.out.size
 clear hA hlen
 go_wp2_with fail
 refine (row10_any _ n c2 yy w2 HO2.out.nums (by omega)).mono ?_
 rintro e w3 ⟨g3,rfl,ha3,hb3,hlow3,ho3,hB3⟩
 go_wp2_with fail
 generalize hW4:World.alloc _ _=W4
 obtain ⟨bx,hbx⟩:∃ z,w3.heap.size=z:=⟨_,rfl⟩
 have hL4:Below w3.heap.size w3 W4:=by rw [← hW4];exact up_alloc w3 _
 have X4:Hid (Cel W4 bx (.slice (some ⟨g3,0,none⟩) 1 1) (.slice (some ⟨g2,0,none⟩) n c2)):=by show Cel _ _ _ _;unfold Cel;rw [← hW4,← hbx];simp [go_sem]
 have HB4:Hid (Below w.heap.size w W4):=bstep HB2.out (bstep hB3 hL4)
 have HV4:Hid (OwnK .i64 33 W4 wa.heap.size (.slice (some ⟨g2,0,none⟩) n c2) yy∧Nums .i64 W4 (.slice (some ⟨g3,0,none⟩) 1 1) [(n:Int)]):=⟨HO2.out.up (bstep hB3 hL4),ha3.up hL4⟩
 have HZ4:Hid (g2 < W4.heap.size∧bx < W4.heap.size):=⟨HV4.out.1.size,cell_lt X4.out.1⟩
 rw [hbx]
 clear hW4 hL4 hbx HO2 ha3 hb3 ho3 hB3 hB2 hz2
 refine (cnew_any W4).mono ?_
 rintro e w5 ⟨tb,rfl,hT5,hB5⟩
 obtain ⟨x40,x41,_,_⟩:=X4.out.up hB5
 have eN:leafR [] [(n:Int)] yy=0∧leafE [] [(n:Int)] yy=0∧leafN [] [(n:Int)] yy = [⟨1,-1,-1,0,[(n:Int)],yy⟩]:=by
  have h0:=keep_is HI.out.2 HL.out.1 (by have:=HL.out.2;omega)
  exact ⟨if_pos ⟨by decide,h0⟩,(if_neg (by decide)).trans (if_pos h0),if_pos ⟨by decide,h0⟩⟩
 have HG:Hid (NodesG [⟨1,-1,-1,0,[(n:Int)],yy⟩]):=by
  have h1:=NodesG.leaf (d:=[(n:Int)]) (x:=yy) NodesG.nil HI.out.1
  rwa [eN.2.2] at h1
 go_wp2_with fail
 have cc:=cleaf_any W4.heap.size tb [] NodesG.nil _ _ 1 1 n c2 [(n:Int)] yy (fun q hq=>by simp at hq;omega) HI.out.1 w5 hT5 (HV4.out.2.up hB5) (HV4.out.1.nums.up hB5)
 rw [eN.1,eN.2.1,eN.2.2] at cc
 refine cc.mono ?_
 rintro e w6 ⟨rfl,hT6,hB6,_⟩
 have HB6:Hid (Below W4.heap.size W4 w6):=hB5.trans hB6
 have HT6:Hid (TapC w6 W4.heap.size tb [⟨1,-1,-1,0,[(n:Int)],yy⟩]):=hT6
 clear cc hT5 hT6 hB5 hB6 x40 x41 eN
 obtain ⟨x40,x41,_,_⟩:=X4.out.up HB6.out
 have hV6:=HV4.out.1.up HB6.out
 obtain ⟨hc6,hf6⟩:=hV6.cell HI.out.2 0 (by have:=HL.out.1;omega)
 obtain ⟨Y,eY⟩:∃ Y,yy.getD 0 0=Y:=⟨_,rfl⟩
 rw [eY] at hc6
 have z1:=cell_lt x40
 have z2:=cell_lt hc6
 have hb0:(0:Int) < (n:Int):=by omega
 clear hV6 eY
 go_wp2_with fail
 refine flow 8 69 (by kernel_rfl) rfl rfl (by kernel_rfl) ?_
 apply Exists.intro
 refine ⟨?_,?_⟩
 ·intro F hF
  have hFc:=hF.cell
  have hFf:=hF.frozen
  simp only [List.take_succ_cons,List.take_zero,List.eraseIdx_cons_succ,List.eraseIdx_cons_zero]
  repeat (go_big_quiet_step (fail))
  refine wpQuiet_nil ?_
  exact rfl
 ·intro U6 hu6
  simp only [List.drop_succ_cons,List.drop_zero]
  obtain ⟨hc7,hf7⟩:=(HV4.out.1.up (HB6.out.trans (hu6.mono HB6.out.size))).cell HI.out.2 0 (by have:=HL.out.1;omega)
  have HT7:Hid (∀ z,TapC (U6.setCell ⟨g2,0,none⟩ z) W4.heap.size tb [⟨1,-1,-1,0,[(n:Int)],yy⟩]):=fun z=>(HT6.out.up hu6).from fun k hk=>heap_set _ _ _ _ _ (by have:=HZ4.out.1;omega)
  have HB7:Hid (∀ z,Below w.heap.size w (U6.setCell ⟨g2,0,none⟩ z)):=fun z=>(bstep HB4.out (HB6.out.trans (hu6.mono HB6.out.size))).setCell (p:=⟨g2,0,none⟩) (Nat.le_trans HBa.out.size hg2) _
  clear hc6 hf6 x40 x41 z1 z2
  go_wp2_with fail
  generalize hw7:World.setCell _ _ _=w7
  have HT7':Hid (TapC w7 W4.heap.size tb [⟨1,-1,-1,0,[(n:Int)],yy⟩]∧Below w.heap.size w w7):=by rw [← hw7];exact ⟨HT7.out _,HB7.out _⟩
  clear hw7 HT7 HB7 hc7 hf7 hu6
  refine (cvalue_any W4.heap.size tb _ HG.out 0 _ rfl w7 HT7'.out.1).mono ?_
  rintro e w8 ⟨v8,rfl,⟨s8,t8,rfl,hs8,ht8⟩,hB8⟩
  obtain ⟨gs,cs,es,hgs⟩:=hs8.at (by simp)
  obtain ⟨gt,ct,et,hgt⟩:=ht8.at (by have h1:=HL.out;have h2:=HI.out.2;show 0 < yy.length;omega)
  have et':t8 = .slice (some ⟨gt,0,none⟩) n ct:=by rw [et,HI.out.2]
  clear et
  subst es et'
  have HB9:Hid (Below w7.heap.size w7 w8∧w7.heap.size≤gt∧w7.heap.size≤gs):=⟨hB8,hgt,hgs⟩
  obtain ⟨ct0,cf0⟩:=ht8.cell HI.out.2 0 (by have:=HL.out.1;omega)
  obtain ⟨cs0,sf0⟩:=hs8.cell (by simp) 0 (by simp)
  have hne:gs≠gt:=fun e=>by
   obtain ⟨_,_,h1⟩:=hs8.obj
   obtain ⟨_,_,h2⟩:=ht8.obj
   rw [e,h2] at h1
   cases h1
  have hne':gt≠gs:=Ne.symm hne
  have zt:gt < w8.heap.size:=ht8.size
  have zs:gs < w8.heap.size:=hs8.size
  have e1:w8.heap.size≠gt:=by omega
  have e2:gt≠w8.heap.size:=by omega
  have e3:w8.heap.size≠gs:=by omega
  have e4:gs≠w8.heap.size:=by omega
  clear hs8 ht8 hB8
  go_wp2_with fail
  generalize hw10:World.alloc _ _=w10
  have HB10:Hid (Below w7.heap.size w7 w10):=by
   show Below _ _ _
   rw [← hw10]
   exact bstep ((HB9.out.1.setCell (p:=⟨gt,0,none⟩) HB9.out.2.1 (.int .i64 99)).setCell (p:=⟨gs,0,none⟩) HB9.out.2.2 (.int .i64 99)) (up_alloc _ _)
  clear hw10 ct0 cf0 cs0 sf0 hne hne' zt zs e1 e2 e3 e4 HB9 hgt hgs
  refine (cvalue_any W4.heap.size tb _ HG.out 0 _ rfl w10 (HT7'.out.1.up HB10.out)).mono ?_
  rintro e w11 ⟨v11,rfl,⟨s11,t11,rfl,hs11,ht11⟩,hB11⟩
  obtain ⟨ps1,ns1,cs1,rfl⟩:=hs11.form_
  obtain ⟨pt1,nt1,ct1,rfl⟩:=ht11.form_
  go_wp2_with fail
  generalize hW12:World.alloc _ _=W12
  have hL12:Below w11.heap.size w11 W12:=by rw [← hW12];exact up_alloc w11 _
  have X12:Cel W12 w11.heap.size (.slice ps1 ns1 cs1) (.slice pt1 nt1 ct1):=by unfold Cel;rw [← hW12];simp [go_sem]
  have HV12:Hid (Tn [(n:Int)] yy (.agg #[.slice ps1 ns1 cs1,.slice pt1 nt1 ct1]) W12):=⟨_,_,_,_,_,_,rfl,hs11.nums.up hL12,ht11.nums.up hL12⟩
  have HB12:Hid (Below w.heap.size w W12):=bstep HT7'.out.2 (bstep HB10.out (bstep hB11 hL12))
  have ck:Hid (∀ W v,Below W12.heap.size W12 W→Tn [(n:Int)] yy v W→Calls Tryz.prog 18 #[.agg #[.slice ps1 ns1 cs1,.slice pt1 nt1 ct1],v] W fun e w'=>e = .returned (.bool true)∧Below W.heap.size W w'):=fun W v hW hv=>by
   have ca:=alike_tn (HV12.out.up hW) hv (by unfold Few;simp) (by unfold Few;rw [HI.out.2];have:=HL.out;omega)
   rw [decide_eq_true ⟨rfl,rfl⟩] at ca
   exact ca
  have cr:Hid (∀ W,Below W12.heap.size W12 W→Calls Tryz.prog 12 #[.slice p n c] W fun e w'=>∃ v,e = .returned v∧Tn [(n:Int)] yy v w'∧Below W.heap.size W w'):=fun W hW=>by
   refine (row10_any p n c yy W (HA.out.up (bstep HB12.out hW)) (by have:=HL.out;omega)).mono ?_
   rintro e w' ⟨g,rfl,ha,hb,_,_,hB⟩
   exact ⟨_,rfl,⟨_,_,_,_,_,_,rfl,ha,hb⟩,hB⟩
  obtain ⟨x20,x21,_,_⟩:=X12
  have x2z:=cell_lt x20
  clear hW12 hL12 hs11 ht11 hB11
  refine rel [⟨8,66,Tn [(n:Int)] yy⟩] 11 69 (by kernel_rfl) rfl rfl (by kernel_rfl) (by rfl) ?_ ?_
  ·intro e he v W W' h hb
   simp only [List.mem_cons,List.not_mem_nil,or_false] at he
   subst he
   exact Tn.up h hb
  apply Exists.intro
  refine ⟨fun x=>?_,?_,?_⟩
  ·simp only [List.take_succ_cons,List.take_zero]
   iterate 8
    refine relQuiet rfl rfl ?_
    apply Exists.intro
    refine ⟨fun F hF hf K hK=>?_,?_⟩
    ·have hFc:=hF.cell
     have hFf:=hF.frozen
     go_big_quiet_op
     first|exact hK|(apply Exists.intro;refine ⟨fun _=>?_,?_⟩;(· fail);exact hK)
    (try simp only [Act.put,List.setIfInBounds_toArray,List.set_cons_zero,List.set_cons_succ])
   refine relTold rfl rfl ?_ ?_
   ·intro F hF hf d
    have hFc:=hF.cell
    have hFf:=hF.frozen
    simp [yieldsR,yieldsUpon,go_sem]
    refine (cr.out (F d) (hF.below d)).mono ?_
    rintro e' w8_ ⟨v8,rfl,h8,hb8⟩
    exact ⟨_,rfl,h8,hb8⟩
   (try simp only [Act.put,List.setIfInBounds_toArray,List.set_cons_zero,List.set_cons_succ])
   refine relQuiet rfl rfl ?_
   apply Exists.intro
   refine ⟨fun F hF hf K hK=>?_,?_⟩
   ·have hFc:=hF.cell
    have hFf:=hF.frozen
    go_big_quiet_op
    first|exact hK|(apply Exists.intro;refine ⟨fun _=>?_,?_⟩;(· exact hF.call (ck.out _ _ (hF.below _) (hf _ List.mem_cons_self (by rfl) _)));exact hK)
   (try simp only [Act.put,List.setIfInBounds_toArray,List.set_cons_zero,List.set_cons_succ])
   refine relQuiet rfl rfl ?_
   apply Exists.intro
   refine ⟨fun F hF hf K hK=>?_,?_⟩
   ·have hFc:=hF.cell
    have hFf:=hF.frozen
    go_big_quiet_op
    first|exact hK|(apply Exists.intro;refine ⟨fun _=>?_,?_⟩;(· fail);exact hK)
   (try simp only [Act.put,List.setIfInBounds_toArray,List.set_cons_zero,List.set_cons_succ])
   refine relEnd ?_
   exact rfl
  ·exact fun x=>rfl
  ·intro w9_ xs hB9 hf
   simp only [List.drop_succ_cons,List.drop_zero]
   have HB9_:Hid (Below w.heap.size w w9_):=bstep HB12.out hB9
   clear hf hB9 x20 x21 x2z
   go_wp2
   go_ret
   exact ⟨rfl,HB9_.out⟩
end Go.Proofs.YtlhpmjcdkpfjdaaGreatDoor.Wd
