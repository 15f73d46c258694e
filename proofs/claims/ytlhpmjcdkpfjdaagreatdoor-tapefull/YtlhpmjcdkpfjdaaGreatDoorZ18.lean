/- TapeFull: a tape has room for just so many nodes; more are refused, those that are there stay. -/
import Derived.Test.YtlhpmjcdkpfjdaaGreatDoorZ17
namespace Go.Proofs.YtlhpmjcdkpfjdaaGreatDoor.Wd
open Go.RowKit Fx
set_option linter.unusedVariables false
set_option linter.unusedSimpArgs false
def fulN (k:Nat):List Nd:=(List.range (min k 512)).map fun (i:Nat)=>(⟨1,-1,-1,0,[1],[(i:Int)]⟩:Nd)
theorem ful_len (k:Nat):(fulN k).length=min k 512:=by simp [fulN]
theorem ful_is (k:Nat):isP [1] [(k:Int)]:=⟨by decide,rfl⟩
theorem ful_succ {k:Nat} (h:k < 512):leafE (fulN k) [1] [(k:Int)]=0∧leafN (fulN k) [1] [(k:Int)]=fulN (k+1):=by
 have hl:(fulN k).length < 512:=by rw [ful_len];omega
 refine ⟨(if_neg (by omega)).trans (if_pos (ful_is k)),(if_pos ⟨hl,ful_is k⟩).trans ?_⟩
 unfold fulN
 rw [Nat.min_eq_left (by omega),Nat.min_eq_left (by omega),List.range_succ,List.map_append]
 rfl
theorem ful_more {k:Nat} (h:512≤k):leafE (fulN k) [1] [(k:Int)]=2∧leafN (fulN k) [1] [(k:Int)]=fulN (k+1):=by
 have hl:512≤(fulN k).length:=by rw [ful_len];omega
 refine ⟨if_pos hl,(if_neg fun h'=>by omega).trans ?_⟩
 unfold fulN
 rw [Nat.min_eq_right h,Nat.min_eq_right (by omega)]
theorem ful_at {k i:Nat} (h:i < min k 512):(fulN k)[i]?=some ⟨1,-1,-1,0,[1],[(i:Int)]⟩:=by
 unfold fulN
 rw [List.getElem?_map,List.getElem?_range h]
 rfl
theorem ful_good (k:Nat):NodesG (fulN k):=fun nd hnd=>by
 unfold fulN at hnd
 obtain ⟨i,hi,rfl⟩:=List.mem_map.1 hnd
 have:=List.mem_range.1 hi
 exact tnsg (ful_is i) fun y hy=>by
  simp at hy
  omega
set_option maxRecDepth 8000 in
set_option maxHeartbeats 8000000 in
theorem tfull_walk (w:World) (hT:Hid (Tz w)) (n:Int) (hn:-9223372036854775808≤n∧n≤9223372036854775807):
  Calls Tryz.prog 5 #[.int .i64 n] w fun e w'=>e = .returned (.bool true)∧Below w.heap.size w w':=by
 haveI:Nonempty World:=⟨w⟩
 go_enter Tryz.func5,Tryz.ntmps5
 go_wp2_with fail
 refine (awake10_any w hT).mono ?_
 rintro e wa ⟨rfl,hBa⟩
 have HBa:Hid (Below w.heap.size w wa):=hBa
 clear hBa
 by_cases h0:n < 0
 ·have d0:decide (n < 0)=true:=decide_eq_true h0
  clear h0
  go_wp2
  go_ret
  exact ⟨rfl,HBa.out⟩
 by_cases h6:600 < n
 ·have d0:decide (n < 0)=false:=decide_eq_false h0
  have d6:decide (600 < n)=true:=decide_eq_true h6
  clear h0 h6
  go_wp2
  go_ret
  exact ⟨rfl,HBa.out⟩
 obtain ⟨N,rfl⟩:∃ N:Nat,n=N:=⟨n.toNat,by omega⟩
 have hN:(N:Int)≤600:=by omega
 have d6:decide ((600:Int) < (N:Int))=false:=decide_eq_false h6
 have d7:decide (600 < N)=false:=decide_eq_false (by omega)
 clear h0 h6 hn
 go_wp2_with fail
 refine (cnew_any wa).mono ?_
 rintro e wb ⟨tb,rfl,hTb,hBb⟩
 have HI:Hid (TapC wb wa.heap.size tb []∧Below wa.heap.size wa wb):=⟨hTb,hBb⟩
 clear hTb hBb
 go_wp2_with fail
 go_loopg [4] N (fun gg i wr=>∃ (k:Nat),k≤N∧gg=N - k∧i = .int .i64 (k:Int)∧Hid (TapC wr wa.heap.size tb (fulN k)∧Below wa.heap.size wa wr))
 case atStart=>exact ⟨0,by omega,by omega,by first|rfl|simp,HI.out⟩
 case round=>
  obtain ⟨k,hk,hg,rfl,HK⟩:=hrel
  obtain ⟨R1,hR1⟩:∃ R1:World,R1=wr:=⟨_,rfl⟩
  subst hR1
  by_cases hkn:k < N
  ·have hk':(k:Int) < (N:Int):=by omega
   have hk2:decide (k < N)=true:=decide_eq_true hkn
   go_wp2_with fail
   generalize hK2:World.alloc _ _=K2
   have hL2:Below R1.heap.size R1 K2:=by rw [← hK2];exact up_alloc R1 _
   have l2:Nums .i64 K2 (.slice (some ⟨R1.heap.size,0,none⟩) 1 1) [(k:Int)]:=by rw [← hK2];exact nums_lit (k:=.i64) R1 [(k:Int)] 1 (0,0) rfl
   clear hK2
   refine (row10_any _ 1 1 [(k:Int)] K2 l2 (by decide)).mono ?_
   rintro e r2 ⟨g2,rfl,ha2,hb2,_,_,hB2⟩
   go_wp2_with fail
   have cc:=cleaf_any wa.heap.size tb (fulN k) (ful_good k) _ _ 1 1 1 1 [1] [(k:Int)] (RI_kern (by decide +kernel)) (fun y hy=>by simp at hy;omega) r2 (HK.out.1.up (bstep hL2 hB2)) ha2 hb2
   obtain ⟨rr,er⟩:∃ z,leafR (fulN k) [1] [(k:Int)]=z:=⟨_,rfl⟩
   rw [er] at cc
   by_cases h5:k < 512
   ·rw [(ful_succ h5).1,(ful_succ h5).2] at cc
    refine cc.mono ?_
    rintro e w4 ⟨rfl,hT4,hC4,_⟩
    have HK4:Hid (TapC w4 wa.heap.size tb (fulN (k+1))∧Below wa.heap.size wa w4):=⟨hT4,(bstep HK.out.2 (bstep hL2 hB2)).trans hC4⟩
    have g1:decide ((k:Int) < 512)=true:=decide_eq_true (by omega)
    have g2_:decide (k < 512)=true:=decide_eq_true h5
    clear cc hT4 hC4 hB2 hL2 l2 ha2 hb2 er h5
    go_wp2
    go_roundg (N - (k+1))
    case measure=>omega
    case rel=>exact ⟨k+1,by omega,rfl,by first|rfl|simp,HK4⟩
   ·rw [(ful_more (by omega)).1,(ful_more (by omega)).2] at cc
    refine cc.mono ?_
    rintro e w4 ⟨rfl,hT4,hC4,_⟩
    have HK4:Hid (TapC w4 wa.heap.size tb (fulN (k+1))∧Below wa.heap.size wa w4):=⟨hT4,(bstep HK.out.2 (bstep hL2 hB2)).trans hC4⟩
    have g1:decide ((k:Int) < 512)=false:=decide_eq_false (by omega)
    have g2_:decide (k < 512)=false:=decide_eq_false h5
    clear cc hT4 hC4 hB2 hL2 l2 ha2 hb2 er h5
    go_wp2
    go_roundg (N - (k+1))
    case measure=>omega
    case rel=>exact ⟨k+1,by omega,rfl,by first|rfl|simp,HK4⟩
  ·obtain rfl:N=k:=by omega
   by_cases h5:512 < N
   ·have g1:decide ((512:Int) < (N:Int))=true:=decide_eq_true (by omega)
    have g2_:decide (512 < N)=true:=decide_eq_true h5
    have hm:min N 512=512:=by omega
    have eD:doE (fulN N) 2 0 0 0=2∧doN (fulN N) 2 0 0 0=fulN N:=by
     have hl:512≤(fulN N).length:=by rw [ful_len];omega
     exact ⟨if_pos hl,if_neg fun h=>by have:=h.1.1;omega⟩
    go_wp2_with fail
    have cc:=cdo_any wa.heap.size tb (fulN N) (ful_good N) 2 0 0 0 (by unfold InR;omega) R1 HK.out.1 (Hid.up_tz hT (bstep HBa.out HK.out.2))
    obtain ⟨rr,er⟩:∃ z,doR (fulN N) 2 0 0 0=z:=⟨_,rfl⟩
    rw [er,eD.1,eD.2] at cc
    refine cc.mono ?_
    rintro e w4 ⟨rfl,hT4,hC4,_⟩
    have HK4:Hid (TapC w4 wa.heap.size tb (fulN N)∧Below wa.heap.size wa w4):=⟨hT4,HK.out.2.trans hC4⟩
    clear cc hT4 hC4 er eD
    go_wp2_with fail
    refine (cvalue_any wa.heap.size tb (fulN N) (ful_good N) 511 _ (ful_at (by omega)) w4 HK4.out.1).mono ?_
    rintro e w5 ⟨v5,rfl,⟨s5,t5,rfl,hs5,ht5⟩,hB5⟩
    obtain ⟨ps5,ns5,cs5,rfl⟩:=hs5.form_
    obtain ⟨pt5,nt5,ct5,rfl,HX⟩:=ht5.nums.lst
    have hnt:nt5=1:=HX.out.1.symm
    subst hnt
    obtain ⟨qv,ov,ev,hcv⟩:=HX.out.2 0 (by omega)
    subst ev
    go_wp2_with fail
    generalize hW5:World.alloc _ _=W5
    have hL5:Below w5.heap.size w5 W5:=by rw [← hW5];exact up_alloc w5 _
    have X5:Hid (Cel W5 w5.heap.size (.slice ps5 ns5 cs5) (.slice (some ⟨qv,ov,none⟩) 1 ct5)):=by show Cel _ _ _ _;unfold Cel;rw [← hW5];simp [go_sem]
    have HK5:Hid (TapC W5 wa.heap.size tb (fulN N)∧Below wa.heap.size wa W5):=⟨HK4.out.1.up (bstep hB5 hL5),bstep HK4.out.2 (bstep hB5 hL5)⟩
    have hc5:=cell_low hcv hL5
    have hc6:W5.cell? ⟨qv,ov,none⟩=some (.int .i64 511):=by simpa using hc5
    clear hW5 hL5 hB5 hs5 ht5 HX hcv hc5
    obtain ⟨x50,x51,_,_⟩:=X5.out
    have cl:=clen_any wa.heap.size tb (fulN N) W5 HK5.out.1
    rw [ful_len,hm] at cl
    refine cl.mono ?_
    rintro e w6 ⟨rfl,ew6⟩
    subst ew6
    clear cl
    go_wp2
    go_ret
    exact ⟨by simp,bstep HBa.out HK5.out.2⟩
   ·have g1:decide ((512:Int) < (N:Int))=false:=decide_eq_false (by omega)
    have g2_:decide (512 < N)=false:=decide_eq_false h5
    have hm:min N 512=N:=by omega
    by_cases hN0:N=0
    ·subst hN0
     go_wp2_with fail
     refine (cvno_any wa.heap.size tb (fulN 0) (-1) (.inl (by omega)) R1 HK.out.1).mono ?_
     rintro e w5 ⟨rfl,hB5⟩
     go_wp2_with fail
     generalize hW5:World.alloc _ _=W5
     have hL5:Below w5.heap.size w5 W5:=by rw [← hW5];exact up_alloc w5 _
     have HK5:Hid (TapC W5 wa.heap.size tb (fulN 0)∧Below wa.heap.size wa W5):=⟨HK.out.1.up (bstep hB5 hL5),bstep HK.out.2 (bstep hB5 hL5)⟩
     have cl:=clen_any wa.heap.size tb (fulN 0) W5 HK5.out.1
     rw [ful_len,hm] at cl
     clear hW5 hL5 hB5
     refine cl.mono ?_
     rintro e w6 ⟨rfl,ew6⟩
     subst ew6
     clear cl
     go_wp2
     go_ret
     exact ⟨rfl,bstep HBa.out HK5.out.2⟩
    ·obtain ⟨M,rfl⟩:∃ M,N=M+1:=⟨N - 1,by omega⟩
     have hM1:((M+1:Nat):Int) - 1=(M:Int):=by omega
     have hM2:decide (M+1=0)=false:=by simp
     have hw:wrap64 (M:Int)=(M:Int):=by unfold wrap64;omega
     go_wp2_with fail
     refine (cvalue_any wa.heap.size tb (fulN (M+1)) (ful_good _) M _ (ful_at (by omega)) R1 HK.out.1).mono ?_
     rintro e w5 ⟨v5,rfl,⟨s5,t5,rfl,hs5,ht5⟩,hB5⟩
     obtain ⟨ps5,ns5,cs5,rfl⟩:=hs5.form_
     obtain ⟨pt5,nt5,ct5,rfl,HX⟩:=ht5.nums.lst
     have hnt:nt5=1:=HX.out.1.symm
     subst hnt
     obtain ⟨qv,ov,ev,hcv⟩:=HX.out.2 0 (by omega)
     subst ev
     go_wp2_with fail
     generalize hW5:World.alloc _ _=W5
     have hL5:Below w5.heap.size w5 W5:=by rw [← hW5];exact up_alloc w5 _
     have X5:Hid (Cel W5 w5.heap.size (.slice ps5 ns5 cs5) (.slice (some ⟨qv,ov,none⟩) 1 ct5)):=by show Cel _ _ _ _;unfold Cel;rw [← hW5];simp [go_sem]
     have HK5:Hid (TapC W5 wa.heap.size tb (fulN (M+1))∧Below wa.heap.size wa W5):=⟨HK.out.1.up (bstep hB5 hL5),bstep HK.out.2 (bstep hB5 hL5)⟩
     have hc5:=cell_low hcv hL5
     have hc6:W5.cell? ⟨qv,ov,none⟩=some (.int .i64 (M:Int)):=by simpa using hc5
     clear hW5 hL5 hB5 hs5 ht5 HX hcv hc5
     obtain ⟨x50,x51,_,_⟩:=X5.out
     have cl:=clen_any wa.heap.size tb (fulN (M+1)) W5 HK5.out.1
     rw [ful_len,hm] at cl
     refine cl.mono ?_
     rintro e w6 ⟨rfl,ew6⟩
     subst ew6
     clear cl
     go_wp2
     go_ret
     exact ⟨by simp,bstep HBa.out HK5.out.2⟩
end Go.Proofs.YtlhpmjcdkpfjdaaGreatDoor.Wd
