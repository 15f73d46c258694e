/- ModelSkips: a skip about a bend adds what went in to what came out. -/
import Derived.Test.YtiampagapgjedaaGreatDoorP29
import Derived.Test.YtiampagapgjedaaGreatDoorP33
import Derived.Test.YtiampagapgjedaaGreatDoorP34
import Derived.Laws.CopyOwn
set_option linter.unusedVariables false
set_option linter.unusedSimpArgs false
set_option maxHeartbeats 16000000
set_option maxRecDepth 16000
namespace Go.Proofs.YtiampagapgjedaaGreatDoor.Wd
open Go.RowKit Fx
theorem ly_lit2 (W:World) (B:Nat) (hB:B≤W.heap.size) (k:Int):LyO (W.alloc (.cells #[.string kBend,.int .i64 k,.int .i64 0,.string kSkip,.int .i64 0,.int .i64 0] 73)) B (.slice (some ⟨W.heap.size,0,none⟩) 2 2) (skL k):=
 ⟨rfl,.inr ⟨W.heap.size,2,_,rfl,hB,heap_alloc_new W _,Nat.le_refl _,by unfold maxLen;omega,rfl,rfl⟩⟩
/-- A row of numbers that was copied over whole. -/
theorem copied {W:World} {B g n c:Nat} {l x:List Int} (h:OwnK .i64 61 W B (.slice (some ⟨g,0,none⟩) n c) l) (hx:x.length=n):
  ∃ cur:Array Value,W.heap[g]?=some (.cells cur 61 (0,0))∧0+(vals .i64 x).length≤cur.size∧∀ U,W.setRow g (cur.toList.take 0++(vals .i64 x++cur.toList.drop (0+(vals .i64 x).length))).toArray=U→Nums .i64 U (.slice (some ⟨g,0,none⟩) n c) x∧Stay g W U∧∀ B',B'≤g→Below B' W U:=by
 rcases h.2 with ⟨h1,_⟩|⟨q,cap,cur,h1,h2,h3,h4,h5,h6,h7⟩
 ·cases h1
 ·cases h1
  have hl:l.length≤cur.size:=by omega
  refine ⟨cur,h3,by rw [vals_len];omega,fun U hU=>⟨?_,?_,?_⟩⟩
  ·refine .inr ⟨⟨g,0,none⟩,c,by rw [hx],fun j v hj=>?_⟩
   rw [addr_plus,Nat.zero_add,← hU]
   unfold World.cell? World.setRow
   simp only [Array.getElem?_modify,h3]
   have hj':j < (vals .i64 x).length:=by
    rcases Nat.lt_or_ge j (vals .i64 x).length with h|h
    ·exact h
    ·rw [List.getElem?_eq_none h] at hj;cases hj
   simp [List.getElem?_append_left hj',hj]
  ·rw [← hU]
   exact ⟨by simp [World.setRow],fun b hb _=>setRow_other W g b _ hb⟩
  ·intro B' hB'
   rw [← hU]
   exact below_setRow (Below.refl _ _) hB' _
theorem mskips_walk (w:World) (hT:Hid (Tz w)) (hK:Hid (Kz w)) (hP:Hid (Pz w)) (z:Nat→Int) (n c:Nat) (p:Option Addr) (k:Int) (h1:RowN .i64 w p n c z) (hk:-9223372036854775808≤k∧k≤9223372036854775807):
  Calls Tryz.prog 8 #[.slice p n c,.int .i64 k] w fun e w'=>e = .returned (.bool true)∧Below w.heap.size w w':=by
 haveI:Nonempty World:=⟨w⟩
 obtain ⟨x,hxl,hd,hri⟩:∃ d:List Int,d.length=n∧Nums .i64 w (.slice p n c) d∧RI d:=⟨nlst n z,nlst_len n z,h1.nums,h1.riI⟩
 have HN:Hid (x.length=n∧Nums .i64 w (.slice p n c) x∧RI x):=⟨hxl,hd,hri⟩
 clear h1 hd hxl hri
 go_enter Tryz.func8,Tryz.ntmps8
 go_wp2_with fail
 refine (awake12_any w hT hK hP).mono ?_
 rintro e w1 ⟨rfl,hB⟩
 have HB1:Hid (Below w.heap.size w w1):=hB
 clear hB
 by_cases hn1:n < 1
 ·have hn1':(n:Int) < 1:=by omega
  go_wp2
  go_ret
  exact ⟨rfl,HB1.out⟩
 have hn1':(1:Int)≤(n:Int):=by omega
 by_cases hn2:40 < n
 ·have hn2':(40:Int) < (n:Int):=by omega
  go_wp2
  go_ret
  exact ⟨rfl,HB1.out⟩
 have hn2':(n:Int)≤40:=by omega
 by_cases hk1:k < 1
 ·go_wp2
  go_ret
  exact ⟨rfl,HB1.out⟩
 have hk1':1≤k:=by omega
 by_cases hk2:5 < k
 ·go_wp2
  go_ret
  exact ⟨rfl,HB1.out⟩
 have hk2':k≤5:=by omega
 have HR:Hid ((1≤n∧n≤40)∧1≤k∧k≤5):=⟨⟨by omega,by omega⟩,hk1',hk2'⟩
 obtain ⟨r0,r1,r2,nd,hnd,hD,hX⟩:=sk_run HR.out.1 HR.out.2 HN.out.1 HN.out.2.2
 obtain ⟨NS,eNS⟩:∃ z,(rnF [(n:Int)] (skL k) [] [] x).2.1=z:=⟨_,rfl⟩
 have hG:NodesG NS:=by
  rw [← eNS]
  exact rnF_G NodesG.nil (fun y hy=>by simp at hy) HN.out.2.2
 rw [eNS] at hnd
 have HLN:Hid ((skD n k x).length≤9223372036854775807∧(skV n k x).length≤9223372036854775807):=by
  have h:=hG nd (List.mem_of_getElem? hnd)
  rw [hD,hX] at h
  have h1:=h.1.1.1
  have h2:=h.1.2
  have h3:=h.1.1.2.2
  rw [ntl_len] at h1
  exact ⟨by omega,by omega⟩
 have HS:Hid (NodesG NS∧NS[2]?=some nd∧nd.D=skD n k x∧nd.X=skV n k x):=⟨hG,hnd,hD,hX⟩
 have HRN:Hid ((rnF [(n:Int)] (skL k) [] [] x).1=0∧(rnF [(n:Int)] (skL k) [] [] x).2.2.1=2∧(rnF [(n:Int)] (skL k) [] [] x).2.2.2 = []∧(rnF [(n:Int)] (skL k) [] [] x).2.1=NS):=⟨r0,r1,r2,eNS⟩
 clear r0 r1 r2 hnd hD hX hG eNS hn1 hn2 hk1 hk2
 go_wp2_with fail
 refine (cnew_any w1).mono ?_
 rintro e w2 ⟨tb,rfl,hT2,hB2⟩
 have HT2:Hid (TapC w2 w1.heap.size tb []∧Below w1.heap.size w1 w2):=⟨hT2,hB2⟩
 clear hT2 hB2
 go_wp2_with fail
 generalize hK5:World.alloc _ _=K5
 have hL4:Below w2.heap.size w2 (w2.alloc (.cells #[.int .i64 (n:Int)] 3)):=up_alloc w2 _
 have hL5:Below w2.heap.size w2 K5:=by rw [← hK5];exact bstep hL4 (up_alloc _ _)
 have s4:(w2.alloc (.cells #[.int .i64 (n:Int)] 3)).heap.size=w2.heap.size+1:=by simp
 have l1:OwnK .i64 3 K5 w2.heap.size (.slice (some ⟨w2.heap.size,0,none⟩) 1 1) [(n:Int)]:=by
  have h:=own_lit (k:=.i64) (e:=3) w2 [(n:Int)] 1 rfl (by decide)
  refine h.up ?_
  rw [← hK5]
  exact up_alloc _ _
 have l2:LyO K5 w2.heap.size (.slice (some ⟨w2.heap.size+1,0,none⟩) 2 2) (skL k):=by
  have h:=ly_lit2 (w2.alloc (.cells #[.int .i64 (n:Int)] 3)) w2.heap.size (by simp) k
  rw [s4] at h
  rw [← hK5]
  exact h
 have HB5:Hid (Below w1.heap.size w1 K5):=bstep HT2.out.2 hL5
 have cr:=Run_any w1.heap.size tb [] NodesG.nil (by simp) [(n:Int)] (skL k) [] x (fun y hy=>by simp at hy) HN.out.2.2 (fun _ st hst ho=>by
  rw [(sk_E HR.out.1 HR.out.2).2,show (skL k).length=2 from rfl,(sk_plan n k x).1] at hst
  simp only [List.mem_cons,List.not_mem_nil,or_false] at hst
  rcases hst with rfl|rfl|rfl
  ·exact absurd rfl ho
  ·exact show RkC 11 from RkC.of (by decide) ck11
  ·exact show RkC 2 from RkC.of (by decide) ck2) (some ⟨w2.heap.size,0,none⟩) (some ⟨w2.heap.size+1,0,none⟩) none p 1 1 2 2 0 0 n c (by decide) (by simp) K5 (HT2.out.1.up hL5) (by show ∀ W,_;intro W hW;exact (Hid.up_tz hT (bstep HB1.out (HB5.out.trans hW))).out) (Hid.up_kz hK (bstep HB1.out HB5.out)) (l1.kept (by decide)) (fun W' hW'=>by
   obtain ⟨p3,c3,e3,h3⟩:=(l2.only hW'.onl (by decide)).rd
   cases e3
   exact h3) (fun W' _=>.inl ⟨rfl,rfl⟩) (by decide) (Kept.below (HN.out.2.1.up HB1.out) (Nat.le_refl _) HB5.out)
 rw [HRN.out.1,HRN.out.2.1,HRN.out.2.2.1,HRN.out.2.2.2] at cr
 clear l1 l2 hL4 hL5 hK5 s4 HRN
 refine cr.mono ?_
 rintro e w6 ⟨v6,rfl,ho6,hT6,hB6⟩
 obtain ⟨pv,nv,cv,rfl,HCv⟩:=ho6.nums.lst
 have hnv:0=nv:=HCv.out.1
 subst hnv
 have HA6:Hid (Below w1.heap.size w1 w6):=HB5.out.trans hB6
 have HT6:Hid (TapC w6 w1.heap.size tb NS):=hT6
 clear ho6 hT6 hB6 cr HCv HB5 HT2
 go_wp2_with fail
 have cv_:=cvalue_any w1.heap.size tb NS HS.out.1 2 nd HS.out.2.1 w6 HT6.out
 rw [HS.out.2.2.1,HS.out.2.2.2] at cv_
 refine cv_.mono ?_
 rintro e w7 ⟨v7,rfl,⟨s7,t7,rfl,hs7,ht7⟩,hB7⟩
 obtain ⟨ps7,ns7,cs7,rfl⟩:=hs7.form_
 obtain ⟨pt7,nt7,ct7,rfl⟩:=ht7.form_
 have HV7:Hid (Nums .i64 w7 (.slice ps7 ns7 cs7) (skD n k x)∧Nums .i64 w7 (.slice pt7 nt7 ct7) (skV n k x)):=⟨hs7.nums,ht7.nums⟩
 have HB7:Hid (Below w.heap.size w w7):=bstep HB1.out (bstep HA6.out hB7)
 clear cv_ hs7 ht7 hB7 HA6 HT6 HS
 go_wp2_with fail
 generalize hW8:World.alloc _ _=W8
 have hB8:Below w7.heap.size w7 W8:=by rw [← hW8];exact bstep (up_alloc w7 _) (up_alloc _ _)
 have g9:W8.cell? ⟨w7.heap.size,0,none⟩=some (.slice ps7 ns7 cs7)∧W8.cell? ⟨w7.heap.size,1,none⟩=some (.slice pt7 nt7 ct7):=by rw [← hW8];simp [go_sem]
 have hl8:Nums .i64 W8 (.slice (some ⟨w7.heap.size+1,0,none⟩) 1 1) [(n:Int)]:=by
  have h:=nums_lit (k:=.i64) (e:=3) (w7.alloc (.cells #[.slice ps7 ns7 cs7,.slice pt7 nt7 ct7] 63)) [(n:Int)] 1 (0,0) rfl
  rw [show (w7.alloc (.cells #[.slice ps7 ns7 cs7,.slice pt7 nt7 ct7] 63)).heap.size=w7.heap.size+1 by simp] at h
  rw [← hW8]
  exact h
 have HG8:Hid (W8.cell? ⟨w7.heap.size,0,none⟩=some (.slice ps7 ns7 cs7)∧W8.cell? ⟨w7.heap.size,1,none⟩=some (.slice pt7 nt7 ct7)):=g9
 have HB8:Hid (Below w.heap.size w W8∧Below w7.heap.size w7 W8):=⟨bstep HB7.out hB8,hB8⟩
 have iP:=isP_ln HN.out.1 HR.out.1.1 (show n≤4096 by omega)
 have hRn:RI [(n:Int)]:=fun y hy=>by simp at hy;omega
 have cn:=rnew_any (.slice (some ⟨w7.heap.size+1,0,none⟩) 1 1) [(n:Int)] hRn iP.1 0 W8 hl8
 rw [prod_ln] at cn
 clear hW8 hB8 g9 hl8
 refine cn.mono ?_
 rintro e w9 ⟨v9,rfl,⟨s9,g,c9,rfl,ho9,hv9,hoff,hBg⟩,hB9⟩
 obtain ⟨ps9,ns9,cs9,rfl⟩:=ho9.form_
 have hz9:=HB8.out.2.size
 have hW78:Hid (w7.heap.size < W8.heap.size):=by show _ < _;exact cell_size HG8.out.1
 have HB9:Hid (Below w.heap.size w w9∧Below w7.heap.size w7 w9):=⟨bstep HB8.out.1 hB9,bstep HB8.out.2 hB9⟩
 have HG9:Hid (w9.cell? ⟨w7.heap.size,0,none⟩=some (.slice ps7 ns7 cs7)∧w9.cell? ⟨w7.heap.size,1,none⟩=some (.slice pt7 nt7 ct7)):=⟨still_cell hB9 HG8.out.1,still_cell hB9 HG8.out.2⟩
 obtain ⟨q,o,rfl,hc0⟩:∃ q o,p=some ⟨q,o,none⟩∧∀ j,j < n→w.cell? ⟨q,o+j,none⟩=some (.int .i64 (x.getD j 0)):=by
  obtain ⟨p',n',c',e',HC⟩:=HN.out.2.1.lst
  cases e'
  obtain ⟨q,o,rfl,-⟩:=HC.out.2 0 (by omega)
  refine ⟨q,o,rfl,fun j hj=>?_⟩
  obtain ⟨q',o',e,h⟩:=HC.out.2 j hj
  cases e
  exact h
 -- the copy
 have hw9:=up_alloc w9 (.cells #[.slice ps9 ns9 cs9,.slice (some ⟨g,0,none⟩) n c9] 63)
 obtain ⟨cur,hcur,hfit,hcop⟩:=copied (hv9.up hw9) (x:=x) HN.out.1
 have HCU:Hid ((w9.alloc (.cells #[.slice ps9 ns9 cs9,.slice (some ⟨g,0,none⟩) n c9] 63)).heap[g]?=some (.cells cur 61 (0,0))∧0+(vals .i64 x).length≤cur.size∧∀ U,(w9.alloc (.cells #[.slice ps9 ns9 cs9,.slice (some ⟨g,0,none⟩) n c9] 63)).setRow g (cur.toList.take 0++(vals .i64 x++cur.toList.drop (0+(vals .i64 x).length))).toArray=U→Nums .i64 U (.slice (some ⟨g,0,none⟩) n c9) x∧Stay g (w9.alloc (.cells #[.slice ps9 ns9 cs9,.slice (some ⟨g,0,none⟩) n c9] 63)) U∧∀ B',B'≤g→Below B' (w9.alloc (.cells #[.slice ps9 ns9 cs9,.slice (some ⟨g,0,none⟩) n c9] 63)) U):=⟨hcur,hfit,hcop⟩
 have HSR:Hid (∀ j v,(vals .i64 x)[j]?=some v→(w9.alloc (.cells #[.slice ps9 ns9 cs9,.slice (some ⟨g,0,none⟩) n c9] 63)).cell? ((⟨q,o,none⟩:Addr).add j)=some v):=fun j v hj=>by
  have hjn:j < n:=by
   rcases Nat.lt_or_ge j (vals .i64 x).length with h|h
   ·rw [vals_len,HN.out.1] at h;exact h
   ·rw [List.getElem?_eq_none h] at hj;cases hj
  rw [addr_plus]
  refine still_cell (bstep HB9.out.1 hw9) ((hc0 j hjn).trans ?_)
  unfold vals at hj
  rw [List.getElem?_map,List.getElem?_eq_getElem (by rw [HN.out.1];exact hjn)] at hj
  rw [← hj,List.getD_eq_getElem?_getD,List.getElem?_eq_getElem (by rw [HN.out.1];exact hjn)]
  rfl
 have HVL:Hid ((vals .i64 x).length=Nat.min n n∧∀ v∈vals .i64 x,v.oneCell'=true):=⟨by rw [vals_len,HN.out.1];simp,vals_one .i64 x⟩
 have HD9:Hid (Nums .i64 w9 (.slice ps9 ns9 cs9) [(n:Int)]∧Off g (.slice ps9 ns9 cs9)∧g≠w9.heap.size∧W8.heap.size≤g):=⟨ho9.nums,hoff,by
  obtain ⟨_,_,h⟩:=hv9.obj
  have:=heap_lt h
  omega,hBg⟩
 have HUF:Hid (∀ U,Stay g (w9.alloc (.cells #[.slice ps9 ns9 cs9,.slice (some ⟨g,0,none⟩) n c9] 63)) U→U.cell? ⟨w9.heap.size,0,none⟩=some (.slice ps9 ns9 cs9)∧U.cell? ⟨w9.heap.size,1,none⟩=some (.slice (some ⟨g,0,none⟩) n c9)):=fun U hS=>by
  have h:=(hS.block _ (Ne.symm HD9.out.2.2.1) (by simp)).trans (heap_alloc_new w9 _)
  exact ⟨(box_2 h).1.1,(box_2 h).2.1⟩
 have HAL:Hid (Below w9.heap.size w9 (w9.alloc (.cells #[.slice ps9 ns9 cs9,.slice (some ⟨g,0,none⟩) n c9] 63))):=hw9
 clear hcur hfit hcop hv9 ho9 hoff cn hB9 hw9 hc0 HG8 HB8
 go_wp2_with (have hR:=HCU.out.1;refine wpList_copy_own rfl (.tmp 61) (.tmp 62) 49 49 rfl 61 Tryz.underlying49 (by kernel_rfl) g 0 n c9 ⟨q,o,none⟩ n c rfl rfl cur 61 hR (vals .i64 x) HVL.out.1 HSR.out HCU.out.2.1 HVL.out.2 ?_;generalize hU:World.setRow _ _ _=U;clear hR;obtain ⟨f0,f1⟩:=HUF.out U (HCU.out.2.2 U hU).2.1;have kf:=cell_size f0;have HUX:Hid (Nums .i64 U (.slice (some ⟨g,0,none⟩) n c9) x∧Stay g (w9.alloc (.cells #[.slice ps9 ns9 cs9,.slice (some ⟨g,0,none⟩) n c9] 63)) U∧∀ B',B'≤g→Below B' (w9.alloc (.cells #[.slice ps9 ns9 cs9,.slice (some ⟨g,0,none⟩) n c9] 63)) U):=HCU.out.2.2 U hU;clear hU HUF HSR HCU HVL)
 have hg7:w7.heap.size≤g:=Nat.le_trans hz9 HD9.out.2.2.2
 have HBU:Hid (Below w.heap.size w U∧Below w7.heap.size w7 U):=by
  have h1:=HUX.out.2.2 w7.heap.size hg7
  have h2:=bstep HB9.out.2 HAL.out
  exact ⟨bstep HB7.out (h2.trans h1),h2.trans h1⟩
 have HVU:Hid (Nums .i64 U (.slice ps7 ns7 cs7) (skD n k x)∧Nums .i64 U (.slice pt7 nt7 ct7) (skV n k x)):=⟨HV7.out.1.up HBU.out.2,HV7.out.2.up HBU.out.2⟩
 have HGU:Hid (U.cell? ⟨w7.heap.size,0,none⟩=some (.slice ps7 ns7 cs7)∧U.cell? ⟨w7.heap.size,1,none⟩=some (.slice pt7 nt7 ct7)):=by
  have hb:=bstep (Below.refl w9.heap.size w9) HAL.out
  have h7:w7.heap.size≠g∧w7.heap.size < (w9.alloc (.cells #[.slice ps9 ns9 cs9,.slice (some ⟨g,0,none⟩) n c9] 63)).heap.size:=by
   have h1:=cell_size HG9.out.1
   have h2:=HAL.out.size
   have h3:=HD9.out.2.2.2
   have h4:=hW78.out
   exact ⟨by omega,by omega⟩
  have key:∀ j v,w9.cell? ⟨w7.heap.size,j,none⟩=some v→U.cell? ⟨w7.heap.size,j,none⟩=some v:=fun j v h=>by
   have h5:=still_cell HAL.out h
   have e:=HUX.out.2.1.block _ h7.1 h7.2
   unfold World.cell? at h5 ⊢
   rw [e]
   exact h5
  exact ⟨key 0 _ HG9.out.1,key 1 _ HG9.out.2⟩
 have HDU:Hid (Nums .i64 U (.slice ps9 ns9 cs9) [(n:Int)]∧Nums .i64 U (.slice (some ⟨g,0,none⟩) n c9) x):=⟨(HD9.out.1.up HAL.out).stay HUX.out.2.1 HD9.out.2.1,HUX.out.1⟩
 have HFU:Hid (U.cell? ⟨w9.heap.size,0,none⟩=some (.slice ps9 ns9 cs9)∧U.cell? ⟨w9.heap.size,1,none⟩=some (.slice (some ⟨g,0,none⟩) n c9)):=⟨f0,f1⟩
 clear HUX HAL HD9 HG9 HV7 HB9 HB7 hBg hg7 hz9
 refine (rbent_any k ps9 (some ⟨g,0,none⟩) ns9 cs9 n c9 [(n:Int)] x hRn HN.out.2.2 U HDU.out.1 HDU.out.2).mono ?_
 rintro e w10 ⟨v10,rfl,⟨s10,t10,rfl,hs10,ht10⟩,hB10⟩
 obtain ⟨pa,na,ca,rfl⟩:=hs10.form_
 obtain ⟨pb,nb,cb,rfl⟩:=ht10.form_
 have HT10:Hid (Nums .i64 w10 (.slice pa na ca) (bentD k [(n:Int)] x)∧Nums .i64 w10 (.slice pb nb cb) (bentV k [(n:Int)] x)):=⟨hs10.nums,ht10.nums⟩
 have HB10:Hid (Below U.heap.size U w10):=hB10
 obtain ⟨E1,eE1⟩:∃ z,bentE k [(n:Int)] x=z:=⟨_,rfl⟩
 rw [eE1]
 replace f0:=still_cell hB10 f0
 replace f1:=still_cell hB10 f1
 replace kf:=cell_size f0
 clear hs10 ht10 hB10 eE1
 go_wp2_with fail
 generalize hW11:World.alloc _ _=W11
 have hB11:Below w10.heap.size w10 W11:=by rw [← hW11];exact up_alloc w10 _
 clear hW11
 have hTG:TnsG (bentD k [(n:Int)] x) (bentV k [(n:Int)] x):=by
  have h:=rk_g (op:=11) (D:=[(n:Int)]) (X:=x) (D':=[]) (X':=[]) (k:=k) (by decide) (by decide) HN.out.2.2 (show bentE k [(n:Int)] x=0 from if_pos ⟨HR.out.2,iP⟩)
  exact h
 have HB11:Hid (Below U.heap.size U W11):=bstep HB10.out hB11
 refine (reach0_any ps9 (some ⟨g,0,none⟩) pa pb ns9 cs9 n c9 na ca nb cb [(n:Int)] x (bentD k [(n:Int)] x) (bentV k [(n:Int)] x) hRn HN.out.2.2 hTG.2.1 hTG.2.2 W11 (HDU.out.1.up HB11.out) (HDU.out.2.up HB11.out) (HT10.out.1.up hB11) (HT10.out.2.up hB11)).mono ?_
 rintro e w12 ⟨v12,rfl,⟨s12,t12,rfl,hs12,ht12⟩,hB12⟩
 obtain ⟨pc,nc,cc,rfl⟩:=hs12.form_
 obtain ⟨pd,nd_,cd,rfl⟩:=ht12.form_
 have HT12:Hid (Nums .i64 w12 (.slice pc nc cc) (skD n k x)∧Nums .i64 w12 (.slice pd nd_ cd) (skV n k x)):=⟨hs12.nums,ht12.nums⟩
 obtain ⟨E2,eE2⟩:∃ z,eachE [(n:Int)] x (bentD k [(n:Int)] x) (bentV k [(n:Int)] x)=z:=⟨_,rfl⟩
 rw [eE2]
 have HB12:Hid (Below U.heap.size U w12):=bstep HB11.out hB12
 have m0:=still_cell HB12.out HGU.out.1
 have m1:=still_cell HB12.out HGU.out.2
 have km:=cell_size m0
 clear hs12 ht12 hB12 eE2 hB11 hTG HT10 HB10 HB11 f0 f1 kf
 go_wp2_with fail
 generalize hW13:World.alloc _ _=W13
 have hB13:Below w12.heap.size w12 W13:=by rw [← hW13];exact up_alloc w12 _
 clear hW13
 have HF:Hid (Below w.heap.size w W13):=bstep HBU.out.1 (bstep HB12.out hB13)
 have ca_:=ralike_any (.slice ps7 ns7 cs7) (.slice pt7 nt7 ct7) (.slice pc nc cc) (.slice pd nd_ cd) (skD n k x) (skV n k x) (skD n k x) (skV n k x) HLN.out.1 HLN.out.2 W13 (HVU.out.1.up (bstep HB12.out hB13)) (HVU.out.2.up (bstep HB12.out hB13)) (HT12.out.1.up hB13) (HT12.out.2.up hB13)
 rw [decide_eq_true ⟨rfl,rfl⟩] at ca_
 refine ca_.mono ?_
 rintro e w14 ⟨rfl,hB14⟩
 have HF2:Hid (Below w.heap.size w w14):=bstep HF.out hB14
 clear ca_ hB14
 go_wp2
 go_ret
 exact ⟨rfl,HF2.out⟩
end Go.Proofs.YtiampagapgjedaaGreatDoor.Wd
