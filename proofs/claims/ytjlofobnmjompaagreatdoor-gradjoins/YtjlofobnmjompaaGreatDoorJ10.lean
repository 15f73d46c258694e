/- Tensors: what matm.All, matm.Mean and matm.row hand back. -/
import Derived.Test.YtjlofobnmjompaaGreatDoorJ07
import Derived.Test.YtjlofobnmjompaaGreatDoorJ02
import Derived.Test.YtjlofobnmjompaaGreatDoorJ09
set_option linter.unusedVariables false
set_option linter.unusedSimpArgs false
set_option maxHeartbeats 16000000
set_option maxRecDepth 16000
namespace Go.Proofs.YtjlofobnmjompaaGreatDoor.Wd
open Go.RowKit Fx
def matE (d x:List Int):Int:=if isP d x then 0 else 1
def allV (d x:List Int):Int:=if isP d x then hold (totalI x) else 0
def meanV (d x:List Int):Int:=if isP d x then meanI x else 0
theorem isP.len {d x:List Int} (h:isP d x):1≤x.length∧x.length≤4096:=by
 have:=h.1.2.2
 have:=h.1.pos
 have:=h.2
 omega
theorem total_in {x:List Int} (hx:RI x) (h:x.length≤4096):InW (totalI x):=by
 have:=total_rng hx
 unfold InW
 omega
theorem all_any (p p2:Option Addr) (n c n2 c2:Nat) (d x:List Int) (hd:RI d) (hx:RI x) (w:World) (h1:Nums .i64 w (.slice p n c) d) (h2:Nums .i64 w (.slice p2 n2 c2) x):
  Calls Tryz.prog 124 #[.agg #[.slice p n c,.slice p2 n2 c2]] w fun e w'=>e = .returned (.tuple #[.int .i64 (allV d x),.int .i64 (matE d x)])∧Below w.heap.size w w':=by
 have cA:=fun W (hW:Below w.heap.size w W)=>tgood_any _ _ d x hd W (h1.up hW) (h2.up hW)
 unfold allV matE
 by_cases hp:isP d x
 ·rw [decide_eq_true hp] at cA
  rw [if_pos hp,if_pos hp]
  obtain ⟨_,_,_,e4,HX⟩:=h2.lst
  cases e4
  have hl:=hp.len
  have wT:=total_in hx hl.2
  rw [HX.out.1] at hl
  have cT:=fun W (hW:Below w.heap.size w W)=>total_any p2 n2 c2 x hx hl.2 W (h2.up hW)
  have cF:∀ W,Calls Tryz.prog 152 #[wd (totalI x)] W fun e w'=>e = .returned (.int .i64 (hold (totalI x)))∧Below W.heap.size W w':=fun W=>fix_any _ wT W
  obtain ⟨th,tl,et,t1,t2,t3,t4,Ht⟩:=words wT
  rw [et] at cT cF
  obtain ⟨T,eT⟩:∃ T,hold (totalI x)=T:=⟨_,rfl⟩
  rw [eT] at cF ⊢
  clear h1 h2 hd hx hp HX wT et eT hl
  go_enter Tryz.func124,Tryz.ntmps124
  go_wp2_with fail
  generalize hW0:World.alloc _ _=W0
  have HB0:=hidB (w:=w) hW0 (by go_grown)
  have XA:Hid (Cel W0 w.heap.size (.slice p n c) (.slice p2 n2 c2)):=celW hW0 (by simp [go_sem])
  clear hW0
  refine (cA W0 HB0.out).mono ?_
  rintro e w1 ⟨rfl,hB1⟩
  have HB1:=hid2 (bstep HB0.out hB1) hB1
  clear hB1
  obtain ⟨a0,a1,_,_⟩:=XA.out.up HB1.out.2
  go_wp2_with fail
  refine (cT w1 HB1.out.1).mono ?_
  rintro e w2 ⟨rfl,hB2⟩
  have HB2:Hid (Below w.heap.size w w2):=bstep HB1.out.1 hB2
  clear hB2 a0 a1
  go_wp2_with fail
  refine (cF w2).mono ?_
  rintro e w3 ⟨rfl,hB3⟩
  have HB3:Hid (Below w.heap.size w w3):=bstep HB2.out hB3
  clear hB3
  go_wp2
  exact bodyPost_ret (v:=.tuple #[.int .i64 T,.int .i64 0]) (by simp [results,Tryz.results124,go_sem]) rfl ⟨rfl,HB3.out⟩
 ·rw [decide_eq_false hp] at cA
  rw [if_neg hp,if_neg hp]
  clear h1 h2 hd hx hp
  go_enter Tryz.func124,Tryz.ntmps124
  go_wp2_with fail
  refine (cA _ (by go_grown)).mono ?_
  rintro e w1 ⟨rfl,hB1⟩
  have HB1:Hid (Below w.heap.size w w1):=bstep (up_alloc w _) hB1
  clear hB1
  go_wp2
  exact bodyPost_ret (v:=.tuple #[.int .i64 0,.int .i64 1]) (by simp [results,Tryz.results124,go_sem]) rfl ⟨rfl,HB1.out⟩
theorem ov_mean (a:Int) (n:Nat) (hn:1≤n):ovI a (n:Int)=hold (rqI a n):=by
 unfold ovI
 rw [if_neg (by omega),← rqI_sg _ _ _ (by omega)]
 congr 2
 ·unfold Fx.differ sg
  rw [show decide ((n:Int) < 0)=false from decide_eq_false (by omega),Bool.bne_false]
  by_cases h:a < 0
  ·rw [decide_eq_true h];simp;omega
  ·rw [decide_eq_false h];simp;omega
theorem mean_any (p p2:Option Addr) (n c n2 c2:Nat) (d x:List Int) (hd:RI d) (hx:RI x) (w:World) (h1:Nums .i64 w (.slice p n c) d) (h2:Nums .i64 w (.slice p2 n2 c2) x):
  Calls Tryz.prog 125 #[.agg #[.slice p n c,.slice p2 n2 c2]] w fun e w'=>e = .returned (.tuple #[.int .i64 (meanV d x),.int .i64 (matE d x)])∧Below w.heap.size w w':=by
 have cA:=fun W (hW:Below w.heap.size w W)=>tgood_any _ _ d x hd W (h1.up hW) (h2.up hW)
 unfold meanV matE
 by_cases hp:isP d x
 ·rw [decide_eq_true hp] at cA
  rw [if_pos hp,if_pos hp]
  obtain ⟨_,_,_,e4,HX⟩:=h2.lst
  cases e4
  have hl:=hp.len
  have wT:=total_in hx hl.2
  rw [HX.out.1] at hl
  have cT:=fun W (hW:Below w.heap.size w W)=>total_any p2 n2 c2 x hx hl.2 W (h2.up hW)
  have cF:∀ W,Calls Tryz.prog 154 #[wd (totalI x),.int .i64 (n2:Int)] W fun e w'=>e = .returned (.int .i64 (meanI x))∧Below W.heap.size W w':=fun W=>by
   have:=over_any (totalI x) (n2:Int) wT (by unfold InR;omega) W
   rw [ov_mean _ _ hl.1] at this
   rw [meanI,HX.out.1]
   exact this
  obtain ⟨th,tl,et,t1,t2,t3,t4,Ht⟩:=words wT
  rw [et] at cT cF
  obtain ⟨T,eT⟩:∃ T,meanI x=T:=⟨_,rfl⟩
  rw [eT] at cF ⊢
  have hl2:(n2:Int)≤4096:=by omega
  clear h1 h2 hd hx hp HX wT et eT hl
  haveI:Nonempty World:=⟨w⟩
  go_enter Tryz.func125,Tryz.ntmps125
  go_wp2_with fail
  generalize hW0:World.alloc _ _=W0
  have HB0:=hidB (w:=w) hW0 (by go_grown)
  have XA:Hid (Cel W0 w.heap.size (.slice p n c) (.slice p2 n2 c2)):=celW hW0 (by simp [go_sem])
  clear hW0
  refine (cA W0 HB0.out).mono ?_
  rintro e w1 ⟨rfl,hB1⟩
  have HB1:=hid2 (bstep HB0.out hB1) hB1
  clear hB1
  obtain ⟨a0,a1,_,_⟩:=XA.out.up HB1.out.2
  have lt0:=cell_lt a0
  have cT1:Hid (∀ W,Below w1.heap.size w1 W→Calls Tryz.prog 153 #[.slice p2 n2 c2] W fun e w'=>e = .returned (.agg #[.int .i64 th,.int .u64 tl])∧Below W.heap.size W w'):=fun W hW=>cT W (bstep HB1.out.1 hW)
  clear cT
  go_wp2_with fail
  refine flow 9 14 (by kernel_rfl) rfl rfl (by kernel_rfl) ?_
  apply Exists.intro
  refine ⟨?_,?_⟩
  ·intro F hF
   have hFc:=hF.cell
   have hFf:=hF.frozen
   simp only [List.take_succ_cons,List.take_zero,List.eraseIdx_cons_succ,List.eraseIdx_cons_zero]
   repeat (go_big_quiet_step (first|(go_at_call 153;exact hF.call (cT1.out _ (hF.below _)))|(go_at_call 154;with_reducible exact hF.call (cF _))))
   refine wpQuiet_nil ?_
   exact rfl
  ·intro W8 hW8
   have HB8:Hid (Below w.heap.size w W8):=bstep HB1.out.1 hW8
   clear hW8 a0 a1 cT1 cF
   simp only [List.drop_succ_cons,List.drop_zero]
   go_wp2
   exact bodyPost_ret (v:=.tuple #[.int .i64 T,.int .i64 0]) (by simp [results,Tryz.results125,go_sem]) rfl ⟨rfl,HB8.out⟩
 ·rw [decide_eq_false hp] at cA
  rw [if_neg hp,if_neg hp]
  clear h1 h2 hd hx hp
  go_enter Tryz.func125,Tryz.ntmps125
  go_wp2_with fail
  refine (cA _ (by go_grown)).mono ?_
  rintro e w1 ⟨rfl,hB1⟩
  have HB1:Hid (Below w.heap.size w w1):=bstep (up_alloc w _) hB1
  clear hB1
  go_wp2
  exact bodyPost_ret (v:=.tuple #[.int .i64 0,.int .i64 1]) (by simp [results,Tryz.results125,go_sem]) rfl ⟨rfl,HB1.out⟩
theorem cut_range (x:List Int) (a m:Nat) (h:a+m≤x.length):(x.drop a).take m=(List.range m).map fun j=>x.getD (a+j) 0:=by
 refine List.ext_getElem (by simp;omega) fun i h1 h2=>?_
 simp at h1 h2
 simp only [List.getElem_take,List.getElem_drop,List.getElem_map,List.getElem_range]
 rw [getD_lt x (a+i) 0 (by omega)]
theorem row_nums {W:World} {p2:Option Addr} {n2 c2:Nat} {x:List Int} (D0 D1 i:Nat) (hx:x.length=D0*D1) (hi:i < D0) (hnc:n2≤c2) (h2:Nums .i64 W (.slice p2 n2 c2) x):Nums .i64 W (sliced p2 (i*D1) ((i+1)*D1) c2 1) ((List.range D1).map fun j=>x.getD (i*D1+j) 0):=by
 obtain ⟨_,_,_,e4,HX⟩:=h2.lst
 cases e4
 have k1:(i+1)*D1≤D0*D1:=Nat.mul_le_mul_right _ hi
 have k2:i*D1+D1=(i+1)*D1:=by rw [Nat.add_mul,Nat.one_mul]
 have h:=cut_nums (k:=.i64) (W:=W) (p:=p2) (i:=i*D1) (j:=(i+1)*D1) (by omega) (by rw [← HX.out.1,hx];exact k1) HX.out.1 hnc h2
 rw [show (i+1)*D1 - i*D1=D1 by omega,cut_range x (i*D1) D1 (by rw [hx];omega)] at h
 exact h
theorem row_is (p2:Option Addr) (i D1 c2:Nat):∃ q,sliced p2 (i*D1) ((i+1)*D1) c2 1 = .slice q D1 (c2 - i*D1):=by
 obtain ⟨q,h⟩:=sliced_is p2 (i*D1) ((i+1)*D1) c2
 rw [show (i+1)*D1 - i*D1=D1 by rw [Nat.add_mul,Nat.one_mul];omega] at h
 exact ⟨q,h⟩
end Go.Proofs.YtjlofobnmjompaaGreatDoor.Wd
