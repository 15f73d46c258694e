/- ModelBack: a net's text is read back as it. -/
import Derived.Test.YtiampagapgjedaaGreatDoorK32
import Derived.Test.YtiampagapgjedaaGreatDoorK29
set_option linter.unusedVariables false
set_option linter.unusedSimpArgs false
set_option maxHeartbeats 16000000
set_option maxRecDepth 16000
namespace Go.Proofs.YtiampagapgjedaaGreatDoor.Wd
open Go.RowKit Fx
theorem text_small {d:List Int} {ls:List Ly} (h:nE d ls=0):(netT d ls).size≤16384:=by
 obtain ⟨hd,hl,hn⟩:=few16 h
 have e:netT d ls=joinW (netW d ls):=if_pos h
 rw [e]
 have h1:=join_len 5 ((netW d ls).map (·.data.toList)) fun u hu=>by
  obtain ⟨x,hx,rfl⟩:=List.mem_map.1 hu
  exact (netW_ok hd hl x hx).2
 have h2:(netW d ls).length≤51:=by
  unfold netW
  have:=wdsL_len ls
  have:=(in_rng hd).1
  simp only [List.length_cons,List.length_append,List.length_map]
  omega
 have h3:(joinW (netW d ls)).size=(Lib.join ((netW d ls).map (·.data.toList)) [32]).length:=by
  unfold joinW
  simp [ByteArray.size]
 rw [h3]
 rw [List.length_map] at h1
 omega
/-- The document's own of a net, in new memory. -/
def NetV (u:Value) (n:Nat) (ls:List Ly) (v:Value) (W:World):Prop:=∃ p c B,v = .agg #[u,.slice p n c]∧LyE 90 W B (.slice p n c) ls
theorem NetV.up {u:Value} {n:Nat} {ls:List Ly} {v:Value} {W W':World} (h:NetV u n ls v W) (hB:Below W.heap.size W W'):NetV u n ls v W':=by
 obtain ⟨p,c,B,e,h⟩:=h
 exact ⟨p,c,B,e,h.up hB⟩
theorem mback_walk (w:World) (hT:Hid (Tz w)) (hK:Hid (Kz w)) (hP:Hid (Pz w)) (z:Nat→Int) (n c:Nat) (p:Option Addr) (ls:List Ly) (n2 c2:Nat) (p2:Option Addr) (h1:RowN .i64 w p n c z) (h2:LayN w p2 n2 c2 ls):
  Calls Tryz.prog 7 #[.agg #[.slice p n c,.slice p2 n2 c2]] w fun e w'=>e = .returned (.bool true)∧Below w.heap.size w w':=by
 haveI:Nonempty World:=⟨w⟩
 obtain ⟨d,hdl,hd⟩:∃ d:List Int,d.length=n∧Nums .i64 w (.slice p n c) d:=⟨nlst n z,nlst_len n z,h1.nums⟩
 have HN:Hid (d.length=n∧Nums .i64 w (.slice p n c) d∧LyR 0 w p2 n2 ls):=⟨hdl,hd,h2.2.2⟩
 clear h1 h2 hd hdl
 go_enter Tryz.func7,Tryz.ntmps7
 go_wp2_with fail
 generalize hW0:World.alloc _ _=W0
 have HB0:Hid (Below w.heap.size w W0):=by rw [← hW0];exact up_alloc w _
 obtain ⟨g0,g1⟩:W0.cell? ⟨w.heap.size,0,none⟩=some (.slice p n c)∧W0.cell? ⟨w.heap.size,1,none⟩=some (.slice p2 n2 c2):=by rw [← hW0];simp [go_sem]
 clear hW0
 refine (awake12_any W0 (Hid.up_tz hT HB0.out) (Hid.up_kz hK HB0.out) (Hid.up_pz hP HB0.out)).mono ?_
 rintro e w1 ⟨rfl,hB⟩
 have HB1:Hid (Below w.heap.size w w1):=bstep HB0.out hB
 replace g0:=still_cell hB g0
 replace g1:=still_cell hB g1
 have kg:=cell_size g0
 clear hB HB0
 by_cases hn:10 < n
 ·have hn':(10:Int) < (n:Int):=by omega
  go_wp2
  go_ret
  exact ⟨rfl,HB1.out⟩
 have hn':(n:Int)≤10:=by omega
 by_cases hm:40 < n2
 ·have hm':(40:Int) < (n2:Int):=by omega
  go_wp2
  go_ret
  exact ⟨rfl,HB1.out⟩
 have hm':(n2:Int)≤40:=by omega
 have hm3:n2≤40:=by omega
 go_wp2_with fail
 obtain ⟨E,eE⟩:∃ E,nE d ls=E:=⟨_,rfl⟩
 have HE:Hid (nE d ls=E):=eE
 have cs:=Shapes_any p p2 n c n2 c2 d ls (by omega) w1 (Hid.up_kz hK HB1.out) (HN.out.2.1.up HB1.out) (HN.out.2.2.up HB1.out)
 rw [eE] at cs
 refine cs.mono ?_
 rintro e w2 ⟨ps,css,rfl,-,hB⟩
 have HB2:Hid (Below w.heap.size w w2):=bstep HB1.out hB
 replace g0:=still_cell hB g0
 replace g1:=still_cell hB g1
 replace kg:=cell_size g0
 clear hB HB1 eE cs
 obtain ⟨X,eX⟩:∃ X,netT d ls=X:=⟨_,rfl⟩
 have HX:Hid (netT d ls=X):=eX
 have ct:Hid (∀ W,Below w.heap.size w W→Calls Tryz.prog 14 #[.agg #[.slice p n c,.slice p2 n2 c2]] W fun e w'=>e = .returned (.string X)∧Below W.heap.size W w'):=fun W hW=>by
  have:=Text_any p p2 n c n2 c2 d ls (by omega) W (Hid.up_kz hK hW) (Hid.up_pz hP hW) (HN.out.2.1.up hW) (HN.out.2.2.up hW)
  rw [eX] at this
  exact this
 clear eX
 go_wp2_with fail
 refine (ct.out _ HB2.out).mono ?_
 rintro e w3 ⟨rfl,hB⟩
 have HB3:Hid (Below w.heap.size w w3):=bstep HB2.out hB
 replace g0:=still_cell hB g0
 replace g1:=still_cell hB g1
 clear hB HB2
 go_wp2_with fail
 by_cases h0:E=0
 ·subst h0
  obtain ⟨hpE,hpX⟩:=back_E HE.out (text_small HE.out)
  have cp:=Parse_any X w3 (Hid.up_kz hK HB3.out)
  rw [← HX.out,hpE,hpX,HX.out] at cp
  refine cp.mono ?_
  rintro e w4 ⟨pa,na,ca,qa,ma,ea,rfl,hd4,hl4,hB⟩
  obtain ⟨p',c',e',hl5⟩:=hl4.rd
  rw [HN.out.2.2.1] at e' hl5
  cases e'
  have HM4:Hid (Nums .i64 w4 (.slice pa na ca) d∧LyR 0 w4 qa n2 ls):=⟨hd4.nums,hl5⟩
  have HB4:Hid (Below w.heap.size w w4):=bstep HB3.out hB
  replace g0:=still_cell hB g0
  replace g1:=still_cell hB g1
  replace kg:=cell_size g0
  clear hd4 hl4 hl5 hB cp hpE hpX HB3 ct HE HX
  go_wp2
  generalize hW5:World.alloc _ _=W5
  have hB5:Below w4.heap.size w4 W5:=by rw [← hW5];exact up_alloc w4 _
  obtain ⟨f0,f1⟩:W5.cell? ⟨w4.heap.size,0,none⟩=some (.slice pa na ca)∧W5.cell? ⟨w4.heap.size,1,none⟩=some (.slice qa n2 ea):=by rw [← hW5];simp [go_sem]
  replace g0:=still_cell hB5 g0
  replace g1:=still_cell hB5 g1
  replace kg:=cell_size g0
  have kf:=cell_size f0
  have HB5:Hid (Below w.heap.size w W5):=bstep HB4.out hB5
  have HM5:Hid (Nums .i64 W5 (.slice pa na ca) d∧LyR 0 W5 qa n2 ls):=⟨HM4.out.1.up hB5,HM4.out.2.up hB5⟩
  clear hW5 hB5 HM4 HB4
  have cA:Hid (∀ v v' W,Below W5.heap.size W5 W→NetV (.slice pa na ca) n2 ls v W→NetV (.slice p n c) n2 ls v' W→Calls Tryz.prog 16 #[v,v'] W fun e w'=>e = .returned (.bool true)∧Below W.heap.size W w'):=fun v v' W hW h h'=>by
   obtain ⟨p3,c3,B3,rfl,h3⟩:=h
   obtain ⟨p4,c4,B4,rfl,h4⟩:=h'
   obtain ⟨p5,c5,e5,h5⟩:=h3.rd
   obtain ⟨p6,c6,e6,h6⟩:=h4.rd
   rw [HN.out.2.2.1] at e5 h5 e6 h6
   cases e5
   cases e6
   have:=alike_any pa p p3 p4 na ca n c n2 c3 n2 c4 d d ls ls (by rw [HN.out.1];omega) (by omega) W (HM5.out.1.up hW) (HN.out.2.1.up (bstep HB5.out hW)) h5 h6
   rw [decide_eq_true ⟨rfl,rfl⟩] at this
   exact this
  refine rel [⟨4,43,NetV (.slice pa na ca) n2 ls⟩,⟨6,45,NetV (.slice p n c) n2 ls⟩] 8 48 (by kernel_rfl) rfl rfl (by kernel_rfl) (by rfl) ?_ ?_
  ·intro e he v W W' h hb
   simp only [List.mem_cons,List.not_mem_nil,or_false] at he
   rcases he with rfl|rfl
   ·exact NetV.up h hb
   ·exact NetV.up h hb
  apply Exists.intro
  refine ⟨fun x=>?_,?_,?_⟩
  ·simp only [List.take_succ_cons,List.take_zero]
   iterate 4
    refine relQuiet rfl rfl ?_
    apply Exists.intro
    refine ⟨fun F hF hf K hK=>?_,?_⟩
    ·have hFc:=hF.cell
     have hFf:=hF.frozen
     go_big_quiet_op
     first|exact hK|(apply Exists.intro;refine ⟨fun _=>?_,?_⟩;(· fail);exact hK)
    (try simp only [Act.put,List.setIfInBounds_toArray,List.set_cons_zero,List.set_cons_succ])
   refine relTold rfl rfl ?_ ?_
   ·intro F hF hf d
    have hFc:=hF.cell
    have hFf:=hF.frozen
    simp [yieldsR,yieldsUpon,go_sem]
    refine (net_any pa qa na ca n2 ea ls (by omega) (F d) (HM5.out.2.up (hF.below d))).mono ?_
    rintro e' w8 ⟨p3,c3,rfl,h8,hB8⟩
    exact ⟨_,rfl,⟨p3,c3,_,rfl,h8⟩,hB8⟩
   (try simp only [Act.put,List.setIfInBounds_toArray,List.set_cons_zero,List.set_cons_succ])
   refine relQuiet rfl rfl ?_
   apply Exists.intro
   refine ⟨fun F hF hf K hK=>?_,?_⟩
   ·have hFc:=hF.cell
    have hFf:=hF.frozen
    go_big_quiet_op
    first|exact hK|(apply Exists.intro;refine ⟨fun _=>?_,?_⟩;(· fail);exact hK)
   (try simp only [Act.put,List.setIfInBounds_toArray,List.set_cons_zero,List.set_cons_succ])
   refine relTold rfl rfl ?_ ?_
   ·intro F hF hf d
    have hFc:=hF.cell
    have hFf:=hF.frozen
    simp [yieldsR,yieldsUpon,go_sem]
    refine (net_any p p2 n c n2 c2 ls (by omega) (F d) (HN.out.2.2.up (bstep HB5.out (hF.below d)))).mono ?_
    rintro e' w8 ⟨p3,c3,rfl,h8,hB8⟩
    exact ⟨_,rfl,⟨p3,c3,_,rfl,h8⟩,hB8⟩
   (try simp only [Act.put,List.setIfInBounds_toArray,List.set_cons_zero,List.set_cons_succ])
   refine relQuiet rfl rfl ?_
   apply Exists.intro
   refine ⟨fun F hF hf K hK=>?_,?_⟩
   ·have hFc:=hF.cell
    have hFf:=hF.frozen
    have h4:∀ d,NetV (.slice pa na ca) n2 ls (x 4) (F d):=fun d=>hf _ List.mem_cons_self (by rfl) d
    have h6:∀ d,NetV (.slice p n c) n2 ls (x 6) (F d):=fun d=>hf _ (List.mem_cons_of_mem _ List.mem_cons_self) (by rfl) d
    go_big_quiet_op
    first|exact hK|(apply Exists.intro;refine ⟨fun _=>?_,?_⟩;(· exact hF.call (cA.out _ _ _ (hF.below _) (h4 _) (h6 _)));exact hK)
   (try simp only [Act.put,List.setIfInBounds_toArray,List.set_cons_zero,List.set_cons_succ])
   refine relEnd ?_
   exact rfl
  ·exact fun x=>rfl
  ·intro w9 xs hB9 hf
   simp only [List.drop_succ_cons,List.drop_zero]
   have HB9:Hid (Below w.heap.size w w9):=bstep HB5.out hB9
   clear hf hB9
   go_wp2
   go_ret
   exact ⟨rfl,HB9.out⟩
 ·have h0':(E != 0)=true:=by simpa using h0
  obtain ⟨hx0,hpE,hpX⟩:=back_none (d:=d) (ls:=ls) (by rw [HE.out];exact h0)
  have cp:=Parse_any X w3 (Hid.up_kz hK HB3.out)
  rw [← HX.out,hpE,hpX] at cp
  have hxe:X=⟨#[]⟩:=by rw [← HX.out];exact hx0
  rw [HX.out] at cp
  subst hxe
  refine cp.mono ?_
  rintro e w4 ⟨pa,na,ca,qa,ma,ea,rfl,-,-,hB⟩
  have HB4:Hid (Below w.heap.size w w4):=bstep HB3.out hB
  replace g0:=still_cell hB g0
  replace g1:=still_cell hB g1
  replace kg:=cell_size g0
  clear hB cp hpE hpX hx0 HB3 h0
  have hem:((⟨#[]⟩:ByteArray).toList == [])=true:=by decide +kernel
  go_wp2_with fail
  generalize hW5:World.alloc _ _=W5
  have hB5:Below w4.heap.size w4 W5:=by rw [← hW5];exact up_alloc w4 _
  replace g0:=still_cell hB5 g0
  replace g1:=still_cell hB5 g1
  have HB5:Hid (Below w.heap.size w W5):=bstep HB4.out hB5
  clear hW5 hB5 HB4
  refine (ct.out _ HB5.out).mono ?_
  rintro e w6 ⟨rfl,hB⟩
  have HB6:Hid (Below w.heap.size w w6):=bstep HB5.out hB
  clear hB HB5 ct
  go_wp2
  go_ret
  exact ⟨rfl,HB6.out⟩
end Go.Proofs.YtiampagapgjedaaGreatDoor.Wd
